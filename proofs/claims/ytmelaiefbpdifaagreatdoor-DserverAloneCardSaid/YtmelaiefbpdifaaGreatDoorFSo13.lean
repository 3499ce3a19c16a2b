/- loadable, sound: whether rows can be those of a data server. -/
import Derived.Test.YtmelaiefbpdifaaGreatDoorFBg13
namespace Go.Proofs.YtmelaiefbpdifaaGreatDoor.Srv
open Go.RowKit Go.Maps
open Pgs (Pg pgE keyB headB ldL ldOk errL load_at under_at)
theorem upto_strOf {P : Program} (t : TypeId) (ht : P.underlying t = some .string) (bs : List UInt8) (i : Nat) (x : Int) (k : IntKind) (hx : x = i) (h : i ≤ bs.length) :
  ∀ W : World, (Instr.slice t (.string (strOf bs)) none (some (.int k x)) none).run P W = .ok (.string (strOf (bs.take i))) W := by
 intro W
 subst hx
 have hs := strOf_size bs
 rw [run_slice_string_h (ht := ht) (h0 := by omega) (h2 := by omega)]
 congr 2
 show (ByteArray.mk bs.toArray).extract _ _ = _
 rw [ByteArray.extract_mk, Int.toNat_natCast]
 simp [strOf]
def fileOf (k : List UInt8) : Nat := numOf ((k.take 5).drop 1)
def okRow (M : List Rw) (c : Ch) : Bool := decide (5 ≤ c.key.length) && ldOk (underL M (headB (fileOf c.key)))
def loadB (M : List Rw) : Bool := (underL M [80]).all (okRow M)
def okEp (c : Ch) : Bool := decide (c.key.length = 5) && decide (c.val.length = 4)
def soundB (M : List Rw) : Bool := (!((findR M bK).isSome && decide ((valL M bK).length ≠ 4))) && ((underL M [69]).all okEp && loadB M)
theorem small_under {M : List Rw} (h : ∀ r ∈ M, 1 ≤ r.key.length ∧ r.key.length ≤ 16 ∧ r.val.length ≤ 200) {q : List UInt8} {c : Ch} (hc : c ∈ underL M q) : c.key.length ≤ 16 ∧ c.val.length ≤ 200 := by
 obtain ⟨r, hr, rfl⟩ := List.mem_map.1 hc
 exact ⟨(h r (List.mem_filter.1 hr).1).2.1, (h r (List.mem_filter.1 hr).1).2.2⟩
theorem all_take {α : Type} {f : α → Bool} {l : List α} {k : Nat} (hk : k < l.length) (h : ∀ c ∈ l.take k, f c = true) (hf : f l[k] = true) : ∀ c ∈ l.take (k + 1), f c = true := fun c hc => by
 rw [List.take_add_one, List.getElem?_eq_getElem hk, List.mem_append] at hc
 rcases hc with hc | hc
 ·exact h c hc
 ·simp at hc; rw [hc]; exact hf
theorem not_all {α : Type} {f : α → Bool} {l : List α} {c : α} (hc : c ∈ l) (hf : f c = false) : l.all f = false := by
 rw [List.all_eq_false]
 exact ⟨c, hc, by rw [hf]; simp⟩
set_option maxRecDepth 100000 in
set_option maxHeartbeats 4000000 in
theorem loadable_any (w1 : World) (rp mb lp : Nat) (M : List Rw) (hR : RowsB w1 rp mb lp M) (hS : Sorted M) (hM : M.length ≤ 1024) (hsm : ∀ r ∈ M, 1 ≤ r.key.length ∧ r.key.length ≤ 16 ∧ r.val.length ≤ 200) :
  Calls Tryz.prog 92 #[.pointer (some ⟨rp, 0, none⟩)] w1 fun e w' => e = .returned (.bool (loadB M)) ∧ Only [] w1 w' := by
 have hund := under_at w1 rp mb lp M hR hS (by omega) [80]
 change Calls _ _ #[_, .string ⟨#[80]⟩] w1 _ at hund
 have hload := fun W (k : Only [] w1 W) (x : Nat) (hx : x < 4294967296) => load_at W rp mb lp M (hR.kept k (by simp) (by simp)) hS hM x hx
 have hsmall : ∀ c ∈ underL M [80], c.key.length ≤ 16 := fun c hc => (small_under hsm hc).1
 have hlen : (underL M [80]).length ≤ 1024 := by
  have h3 : (underL M [80]).length ≤ M.length := by unfold underL; rw [List.length_map]; exact List.length_filter_le _ _
  omega
 have hfin : ∀ b : Bool, (underL M [80]).all (okRow M) = b → loadB M = b := fun b h => h
 clear hR hS hM hsm
 generalize hres : loadB M = res at *
 generalize hU : underL M [80] = U at *
 replace hload := Lib.hid hload
 replace hsmall := Lib.hid hsmall
 replace hfin := Lib.hid hfin
 replace hU := Lib.hid hU
 replace hres := Lib.hid hres
 go_enter Tryz.func92, Tryz.ntmps92
 go_wp2_with fail
 refine hund.mono ?_; rintro e w3 ⟨v, rfl, hne⟩
 obtain ⟨B, cb, rfl, hcb, hB, k3, _⟩ := hne
 obtain ⟨n, hn⟩ : ∃ n, n = U.length := ⟨_, rfl⟩
 rw [← hn] at hlen hcb ⊢
 have HN := Lib.hid hn
 clear hn
 go_wp2_with fail
 go_loopw [3, 12] (fun v i wr => ∃ (k : Nat) (lt : List UInt8), k ≤ n ∧ i = .int .i64 k ∧ v = .string (strOf lt) ∧ Hid (∀ c ∈ U.take k, okRow M c = true) ∧ Hid (lt = [] ∨ ∃ c : Ch, lt = c.key.take 5 ∧ 5 ≤ c.key.length ∧ okRow M c = true) ∧ Only [] w3 wr) (fun _ i _ => n - (intOf i).toNat)
 case atStart => exact ⟨0, [], Nat.zero_le _, rfl, rfl, fun c hc => by simp at hc, .inl rfl, Only.refl [] _⟩
 case round =>
  obtain ⟨k, lt, hk, rfl, rfl, hall, hlt0, kr⟩ := hrel
  by_cases hlt : k < n
  ·have hk' : k < U.length := by have := HN.out; omega
   obtain ⟨g, off, rfl, _, hat⟩ := hB.get hk'
   obtain ⟨c0, c1, c2⟩ := chs_at (hat.kept kr (by simp)) hk'
   have hmem : U[k] ∈ U := List.getElem_mem hk'
   have h16 := hsmall.out _ hmem
   have hnext := fun (hf : okRow M U[k] = true) => all_take hk' hall.out hf
   have hbad := fun (hf : okRow M U[k] = false) => not_all hmem hf
   have hsz := strOf_size U[k].key
   have hup := fun (h5 : 5 ≤ U[k].key.length) => upto_strOf (P := Tryz.prog) 9 Tryz.underlying9 U[k].key 5 5 .i64 rfl h5
   have hfr := fun (h5 : 5 ≤ U[k].key.length) => from_strOf (P := Tryz.prog) 9 Tryz.underlying9 (U[k].key.take 5) 1 1 .i64 rfl (by rw [List.length_take]; omega)
   have heq := beq_toList (U[k].key.take 5) lt
   have hok : okRow M U[k] = (decide (5 ≤ U[k].key.length) && ldOk (underL M (headB (fileOf U[k].key)))) := rfl
   have hnum := fun W => numberOf_any W ((U[k].key.take 5).drop 1) (by rw [List.length_drop, List.length_take]; omega)
   have hfile : numOf ((U[k].key.take 5).drop 1) = fileOf U[k].key := rfl
   have hflt := numOf_lt ((U[k].key.take 5).drop 1)
   have hnew : 5 ≤ U[k].key.length → okRow M U[k] = true → (U[k].key.take 5 = [] ∨ ∃ c : Ch, U[k].key.take 5 = c.key.take 5 ∧ 5 ≤ c.key.length ∧ okRow M c = true) := fun h1 h2 => .inr ⟨U[k], rfl, h1, h2⟩
   rw [hfile] at hnum hflt
   have k1r := k3.trans kr
   generalize hch : U[k] = ch at *
   obtain ⟨ky, vl, gn⟩ := ch
   simp only at c0 c1 c2 h16 hsz hup hfr heq hnum hflt hok hnew
   have hloadc := hload.out
   generalize fileOf ky = fl at *
   generalize hst : ky.take 5 = st at *
   have hstl : 5 ≤ ky.length → st.length = 5 := fun h5 => by rw [← hst, List.length_take]; omega
   generalize strOf (st.drop 1) = d1 at *
   generalize hvs : strOf vl = vs at *
   generalize hks : strOf ky = ks at *
   replace hst := Lib.hid hst
   replace hch := Lib.hid hch
   replace hvs := Lib.hid hvs
   replace hks := Lib.hid hks
   clear hat hmem h16
   replace hfile := Lib.hid hfile
   replace hstl := Lib.hid hstl
   by_cases h5 : 5 ≤ ky.length
   ·have hup' := hup h5
    have hfr' := hfr h5
    have hnl : ¬ (ks.size : Int) < 5 := by omega
    have hnl2 : decide ((ks.size : Int) < 5) = false := by simp; omega
    clear hup hfr
    by_cases hsame : st = lt
    ·-- the same object as the row ahead
     have hb1 : (st == lt) = true := by rw [hsame]; simp
     rw [hb1] at heq
     have hokr : okRow M ⟨ky, vl, gn⟩ = true := by
      rcases hlt0.out with h0 | ⟨c, e1, e2, e3⟩
      ·exfalso
       have := hstl.out h5
       rw [hsame, h0] at this
       simp at this
      ·rw [hok, decide_eq_true h5, Bool.true_and]
       have e4 : okRow M c = (decide (5 ≤ c.key.length) && ldOk (underL M (headB (fileOf c.key)))) := rfl
       rw [e4, Bool.and_eq_true] at e3
       have e5 : fileOf c.key = fl := by unfold fileOf; rw [← e1, ← hsame]; exact hfile.out
       rw [← e5]
       exact e3.2
     have hn := hnext hokr
     replace hn := Lib.hid hn
     clear hnext hbad hnew hb1
     replace hok := Lib.hid hok
     replace hokr := Lib.hid hokr
     replace hsame := Lib.hid hsame
     replace hsz := Lib.hid hsz
     replace h5 := Lib.hid h5
     generalize strOf st = ss at *
     generalize hls : strOf lt = ls at *
     have hlsE := Lib.hid (congrArg Value.string hls.symm)
     replace hls := Lib.hid hls
     go_wp2
     go_roundw
     case rel => exact ⟨k + 1, lt, by omega, by go_num, hlsE.out, hn, hlt0, kr.alloc _⟩
     case measure => simp [intOf]; omega
    ·have hb1 : (st == lt) = false := by rw [beq_eq_false_iff_ne]; exact hsame
     rw [hb1] at heq
     have hlc := fun W (k : Only [] w1 W) => hload.out W k fl hflt
     have kx : Only [] w1 (wr.alloc (.cells #[.string ks, .string vs, .bool gn] 133)) := k1r.alloc _
     have ky' : Only [] w3 (wr.alloc (.cells #[.string ks, .string vs, .bool gn] 133)) := kr.alloc _
     replace hsame := Lib.hid hsame
     replace hsz := Lib.hid hsz
     cases hld : ldOk (underL M (headB fl)) with
     | true =>
      have hokr : okRow M ⟨ky, vl, gn⟩ = true := by rw [hok, decide_eq_true h5, hld]; rfl
      have hn := hnext hokr
      have hnw := hnew h5 hokr
      rw [hld] at hlc
      replace hn := Lib.hid hn
      replace hnw := Lib.hid hnw
      replace hlc := Lib.hid hlc
      clear hnext hbad hnew hb1
      replace hok := Lib.hid hok
      replace hokr := Lib.hid hokr
      replace h5 := Lib.hid h5
      replace hld := Lib.hid hld
      generalize hsst : strOf st = ss at *
      have hssE := Lib.hid (congrArg Value.string hsst.symm)
      replace hsst := Lib.hid hsst
      generalize strOf lt = ls at *
      go_wp2_with fail
      refine (hnum _).mono ?_; rintro e w5 ⟨rfl, k5⟩
      go_wp2_with fail
      refine (hlc.out _ (kx.trans k5)).mono ?_; rintro e w6 ⟨v6, rfl, hm6⟩
      have k6 := hm6.only
      have kend := (ky'.trans k5).trans k6
      replace kend := Lib.hid kend
      clear hm6 k5 k6 kx ky'
      unfold errL
      go_wp2
      go_roundw
      case rel => exact ⟨k + 1, st, by omega, by go_num, hssE.out, hn, hnw, kend.out⟩
      case measure => simp [intOf]; omega
     | false =>
      have hokr : okRow M ⟨ky, vl, gn⟩ = false := by rw [hok, hld, Bool.and_false]
      have hr := hfin.out false (hbad hokr)
      rw [hld] at hlc
      replace hlc := Lib.hid hlc
      clear hnext hbad hnew hb1
      replace hok := Lib.hid hok
      replace hokr := Lib.hid hokr
      replace h5 := Lib.hid h5
      replace hld := Lib.hid hld
      subst hr
      generalize strOf st = ss at *
      generalize strOf lt = ls at *
      go_wp2_with fail
      refine (hnum _).mono ?_; rintro e w5 ⟨rfl, k5⟩
      go_wp2_with fail
      refine (hlc.out _ (kx.trans k5)).mono ?_; rintro e w6 ⟨v6, rfl, hm6⟩
      have k6 := hm6.only
      have kend := (kx.trans k5).trans k6
      replace kend := Lib.hid kend
      clear hm6 k5 k6 kx ky'
      unfold errL
      go_wp2
      go_ret
      exact ⟨rfl, kend.out⟩
   ·have hlt5 : (ks.size : Int) < 5 := by omega
    have hlt6 : decide ((ks.size : Int) < 5) = true := by simp; omega
    have hokr : okRow M ⟨ky, vl, gn⟩ = false := by rw [hok, decide_eq_false h5, Bool.false_and]
    have hr := hfin.out false (hbad hokr)
    have kend : Only [] w1 (wr.alloc (.cells #[.string ks, .string vs, .bool gn] 133)) := k1r.alloc _
    subst hr
    replace kend := Lib.hid kend
    clear hnext hbad hnew hup hfr heq hnum
    replace hok := Lib.hid hok
    replace hokr := Lib.hid hokr
    replace hsz := Lib.hid hsz
    go_wp2
    go_ret
    exact ⟨rfl, kend.out⟩
  ·have hkn : U.take k = U := List.take_of_length_le (by have := HN.out; omega)
   rw [hkn] at hall
   have hr := hfin.out true (List.all_eq_true.2 hall.out)
   subst hr
   have k1r := k3.trans kr
   go_wp2
   go_ret
   exact ⟨rfl, k1r⟩
end Go.Proofs.YtmelaiefbpdifaaGreatDoor.Srv
