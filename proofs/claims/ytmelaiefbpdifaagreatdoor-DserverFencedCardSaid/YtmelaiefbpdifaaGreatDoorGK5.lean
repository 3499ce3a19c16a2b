/- Joined: Bg13, So13, Sp13, St14 -/
import Derived.Test.YtmelaiefbpdifaaGreatDoorGHn13
namespace Go.Proofs.YtmelaiefbpdifaaGreatDoor.Srv
open Go.RowKit Go.Maps
open Pgs (Pg pgE keyB headB ldL ldOk errL load_at under_at)
def boCh (b : Nat) : List Ch := [⟨bK, be4 b, false⟩]
def bootN (M : List Rw) : Nat := numOf (valL M bK)
def Begun (N : Nat) (M : List Rw) (s : St) (n : Nat) (b x : Int) (M' : List Rw) (s' : St) (n' : Nat) (f' : Bool) : Prop :=
 (bootN M = 4294967295 ∧ b = 0 ∧ x = 16 ∧ M' = M ∧ s' = s ∧ n' = n ∧ f' = false) ∨
 (bootN M < 4294967295 ∧ Commits5 N M s n false (boCh (bootN M + 1)) x M' s' n' f' ∧ b = if x = 0 then (bootN M : Int) + 1 else 0)
def BegunM (w w1 w' : World) (F : List Nat) (rp mb lp p N : Nat) (M : List Rw) (s : St) (n : Nat) (e : Ending) : Prop :=
 ∃ b x M' s' n' f' F', e = .returned (.tuple #[.int .u32 b, .int .i64 x]) ∧ Begun N M s n b x M' s' n' f' ∧ Own5 w w' F' rp mb lp p s' n' f' M' ∧ Only (mb :: lp :: F) w1 w' ∧ ∀ j ∈ F', j ∈ F ∨ w1.heap.size ≤ j
set_option maxRecDepth 100000 in
set_option maxHeartbeats 4000000 in
theorem begin_any {w w1 : World} {F : List Nat} {rp mb lp p n N : Nat} {s : St} {M : List Rw} (h : Own5 w w1 F rp mb lp p s n false M) (hN : s.firm.length = 41 + N) (hM : Good N M) (hn : n < 4294967296) (hlate : s.late.length + 200 ≤ 1048576) :
  Calls Tryz.prog 46 #[.pointer (some ⟨rp, 0, none⟩)] w1 fun e w' => BegunM w w1 w' F rp mb lp p N M s n e := by
 have hv : (valL M bK).length ≤ 200 := by
  unfold valL
  split
  ·rename_i r hr
   exact (hM.small r (findR_mem hr).1).2.2
  ·simp
 have hget := get_any w1 rp mb lp M bK (by decide) h.rows
 change Calls _ _ #[_, .string ⟨#[66]⟩] w1 _ at hget
 have hnum := fun W => numberOf_any W (valL M bK) (by omega)
 have hlt := numOf_lt (valL M bK)
 have hby := fun W (hb : bootN M < 4294967295) => bytesOf_any W ((bootN M : Int) + 1) (bootN M + 1) (by omega) (by omega)
 have hcm := fun W (k : Only [] w1 W) B (hB : Els chE 3 W B (boCh (bootN M + 1))) => (h.keep k).commit B 1 (boCh (bootN M + 1)) hN hM hn hB (by simp [okayC, boCh, bK, be4_length]) (by simp [boCh]) (by simp [boCh]) hlate
 have hfin := fun W (k : Only [] w1 W) (hb : bootN M = 4294967295) => show BegunM w w1 W F rp mb lp p N M s n (.returned (.tuple #[.int .u32 0, .int .i64 16])) from
  ⟨0, 16, M, s, n, false, F, rfl, .inl ⟨hb, rfl, rfl, rfl, rfl, rfl, rfl⟩, h.keep k, k.more (by simp), fun j hj => .inl hj⟩
 have hfin2 := fun (x : Int) M' s' n' f' F' W (hb : bootN M < 4294967295) (hc : Commits5 N M s n false (boCh (bootN M + 1)) x M' s' n' f') (h5 : Own5 w W F' rp mb lp p s' n' f' M') (k : Only (mb :: lp :: F) w1 W) (hF : ∀ j ∈ F', j ∈ F ∨ w1.heap.size ≤ j) =>
  show BegunM w w1 W F rp mb lp p N M s n (.returned (.tuple #[.int .u32 (if x = 0 then (bootN M : Int) + 1 else 0), .int .i64 x])) from
  ⟨_, x, M', s', n', f', F', rfl, .inr ⟨hb, hc, rfl⟩, h5, k, hF⟩
 have hbe : boCh (bootN M + 1) = [⟨bK, be4 (bootN M + 1), false⟩] := rfl
 have hbN : numOf (valL M bK) = bootN M := rfl
 rw [hbN] at hnum hlt
 obtain ⟨es, hes⟩ : ∃ es, strOf (be4 (bootN M + 1)) = es := ⟨_, rfl⟩
 simp only [hes] at hby
 clear h hv hN hM hn hlate hbN
 generalize (findR M bK).isSome = b at *
 generalize strOf (valL M bK) = vs at *
 obtain ⟨y, hy⟩ : ∃ y : Nat, y = bootN M := ⟨_, rfl⟩
 replace hcm := Lib.hid hcm
 replace hfin := Lib.hid hfin
 replace hfin2 := Lib.hid hfin2
 replace hbe := Lib.hid hbe
 replace hes := Lib.hid hes
 replace hnum := Lib.hid hnum
 by_cases hmax : bootN M = 4294967295
 ·have hw : IntKind.u32.wrap ((bootN M : Int) + 1) = 0 := by rw [hmax, IntKind.wrap_u32]; decide
  have hfin' := fun W k => hfin.out W k hmax
  replace hfin' := Lib.hid hfin'
  replace hmax := Lib.hid hmax
  clear hby hlt
  generalize (bootN M : Int) = yy at *
  go_enter Tryz.func46, Tryz.ntmps46
  go_wp2_with fail
  refine hget.mono ?_; rintro e w2 ⟨rfl, k2⟩
  go_wp2_with fail
  refine (hnum.out _).mono ?_; rintro e w3 ⟨rfl, k3⟩
  have k13 := k2.trans k3
  go_wp2
  go_ret2
  exact hfin'.out _ k13
 ·have hb : bootN M < 4294967295 := by omega
  have hw : IntKind.u32.wrap ((bootN M : Int) + 1) = (bootN M : Int) + 1 := by rw [IntKind.wrap_u32]; omega
  have hne : (((bootN M : Int) + 1) == 0) = false := by rw [beq_eq_false_iff_ne]; omega
  have hne2 : ¬ ((bootN M : Int) + 1) = 0 := by omega
  have hby' := fun W => hby W hb
  have hfin' := fun x M' s' n' f' F' W hc h5 k hF => hfin2.out x M' s' n' f' F' W hb hc h5 k hF
  replace hby' := Lib.hid hby'
  replace hfin' := Lib.hid hfin'
  replace hb := Lib.hid hb
  clear hby hmax hlt
  have hmod : ((bootN M : Int) + 1) % 4294967296 = (bootN M : Int) + 1 := by have := hb.out; omega
  obtain ⟨yb, hyb⟩ : ∃ yb, yb = (bootN M : Int) + 1 := ⟨_, rfl⟩
  rw [← hyb] at hne hne2 hby' hfin'
  have hmod2 : ((bootN M : Int) + 1) % 4294967296 = yb := hmod.trans hyb.symm
  clear hmod hw
  replace hyb := Lib.hid hyb
  generalize (bootN M : Int) = yy at hmod2 hnum
  go_enter Tryz.func46, Tryz.ntmps46
  go_wp2_with fail
  refine hget.mono ?_; rintro e w2 ⟨rfl, k2⟩
  go_wp2_with fail
  refine (hnum.out _).mono ?_; rintro e w3 ⟨rfl, k3⟩
  have k13 := k2.trans k3
  go_wp2_with fail
  refine (hby'.out _).mono ?_; rintro e w4 ⟨rfl, k4⟩
  have k14 := k13.trans k4
  have k5 : Only [] w1 (w4.alloc (.cells #[.string ⟨#[66]⟩, .string es, .bool false] 133)) := k14.alloc _
  have hE := chE_new (w := w4) (gn := false) (kl := bK) (ks := ⟨#[66]⟩) rfl hes.out
  rw [← hbe.out] at hE
  replace hE := Lib.hid hE
  clear k2 k3 k13 k4 k14 hget hnum
  go_wp2_with fail
  refine (hcm.out _ k5 _ hE.out).mono ?_
  rintro e w6 ⟨x, M', s', n', f', F', rfl, hc, h5, k6, hF6⟩
  have hE2 := hfin'.out x M' s' n' f' F' w6 hc h5 ((k5.more (by simp)).then k6 (fun i hi => .inl hi)) (fun j hj => (hF6 j hj).imp id (fun hh => Nat.le_trans k5.size hh))
  replace hE2 := Lib.hid hE2
  clear hfin' hc h5 k6 hF6 k5
  by_cases hx : x = 0
  ·subst hx
   go_wp2
   go_ret2
   exact hE2.out
  ·have hx2 : (x == 0) = false := by rw [beq_eq_false_iff_ne]; exact hx
   have hx3 : (x != 0) = true := by rw [bne_iff_ne]; exact hx
   go_wp2
   go_ret2
   have := hE2.out
   first | exact this | (rw [if_neg hx] at this; exact this)
end Go.Proofs.YtmelaiefbpdifaaGreatDoor.Srv
namespace Go.Proofs.YtmelaiefbpdifaaGreatDoor.Srv
open Go.RowKit Go.Maps
open Pgs (Pg pgE keyB headB ldL ldOk errL load_at under_at)
theorem upto_strOf {P : Program} (t : TypeId) (ht : P.underlying t = some .string) (bs : List UInt8) (i : Nat) (x : Int) (k : IntKind) (hx : x = i) (h : i ≤ bs.length) :
  ∀ W : World, (Instr.slice t (.string (strOf bs)) none (some (.int k x)) none).run P W = .ok (.string (strOf (bs.take i))) W := by
 intro W
 subst hx
 have hs := strOf_size bs
 rw [run_slice_string_h (ht := ht) (h0 := by omega) (h2 := by omega)]
 congr 2
 show (ByteArray.mk bs.toArray).extract _ _ = _
 rw [ByteArray.extract_mk, Int.toNat_natCast]
 simp [strOf]
def fileOf (k : List UInt8) : Nat := numOf ((k.take 5).drop 1)
def okRow (M : List Rw) (c : Ch) : Bool := decide (5 ≤ c.key.length) && ldOk (underL M (headB (fileOf c.key)))
def loadB (M : List Rw) : Bool := (underL M [80]).all (okRow M)
def okEp (c : Ch) : Bool := decide (c.key.length = 5) && decide (c.val.length = 4)
def soundB (M : List Rw) : Bool := (!((findR M bK).isSome && decide ((valL M bK).length ≠ 4))) && ((underL M [69]).all okEp && loadB M)
theorem small_under {M : List Rw} (h : ∀ r ∈ M, 1 ≤ r.key.length ∧ r.key.length ≤ 16 ∧ r.val.length ≤ 200) {q : List UInt8} {c : Ch} (hc : c ∈ underL M q) : c.key.length ≤ 16 ∧ c.val.length ≤ 200 := by
 obtain ⟨r, hr, rfl⟩ := List.mem_map.1 hc
 exact ⟨(h r (List.mem_filter.1 hr).1).2.1, (h r (List.mem_filter.1 hr).1).2.2⟩
theorem all_take {α : Type} {f : α → Bool} {l : List α} {k : Nat} (hk : k < l.length) (h : ∀ c ∈ l.take k, f c = true) (hf : f l[k] = true) : ∀ c ∈ l.take (k + 1), f c = true := fun c hc => by
 rw [List.take_add_one, List.getElem?_eq_getElem hk, List.mem_append] at hc
 rcases hc with hc | hc
 ·exact h c hc
 ·simp at hc; rw [hc]; exact hf
theorem not_all {α : Type} {f : α → Bool} {l : List α} {c : α} (hc : c ∈ l) (hf : f c = false) : l.all f = false := by
 rw [List.all_eq_false]
 exact ⟨c, hc, by rw [hf]; simp⟩
set_option maxRecDepth 100000 in
set_option maxHeartbeats 4000000 in
theorem loadable_any (w1 : World) (rp mb lp : Nat) (M : List Rw) (hR : RowsB w1 rp mb lp M) (hS : Sorted M) (hM : M.length ≤ 1024) (hsm : ∀ r ∈ M, 1 ≤ r.key.length ∧ r.key.length ≤ 16 ∧ r.val.length ≤ 200) :
  Calls Tryz.prog 92 #[.pointer (some ⟨rp, 0, none⟩)] w1 fun e w' => e = .returned (.bool (loadB M)) ∧ Only [] w1 w' := by
 have hund := under_at w1 rp mb lp M hR hS (by omega) [80]
 change Calls _ _ #[_, .string ⟨#[80]⟩] w1 _ at hund
 have hload := fun W (k : Only [] w1 W) (x : Nat) (hx : x < 4294967296) => load_at W rp mb lp M (hR.kept k (by simp) (by simp)) hS hM x hx
 have hsmall : ∀ c ∈ underL M [80], c.key.length ≤ 16 := fun c hc => (small_under hsm hc).1
 have hlen : (underL M [80]).length ≤ 1024 := by
  have h3 : (underL M [80]).length ≤ M.length := by unfold underL; rw [List.length_map]; exact List.length_filter_le _ _
  omega
 have hfin : ∀ b : Bool, (underL M [80]).all (okRow M) = b → loadB M = b := fun b h => h
 clear hR hS hM hsm
 generalize hres : loadB M = res at *
 generalize hU : underL M [80] = U at *
 replace hload := Lib.hid hload
 replace hsmall := Lib.hid hsmall
 replace hfin := Lib.hid hfin
 replace hU := Lib.hid hU
 replace hres := Lib.hid hres
 go_enter Tryz.func92, Tryz.ntmps92
 go_wp2_with fail
 refine hund.mono ?_; rintro e w3 ⟨v, rfl, hne⟩
 obtain ⟨B, cb, rfl, hcb, hB, k3, _⟩ := hne
 obtain ⟨n, hn⟩ : ∃ n, n = U.length := ⟨_, rfl⟩
 rw [← hn] at hlen hcb ⊢
 have HN := Lib.hid hn
 clear hn
 go_wp2_with fail
 go_loopw [3, 12] (fun v i wr => ∃ (k : Nat) (lt : List UInt8), k ≤ n ∧ i = .int .i64 k ∧ v = .string (strOf lt) ∧ Hid (∀ c ∈ U.take k, okRow M c = true) ∧ Hid (lt = [] ∨ ∃ c : Ch, lt = c.key.take 5 ∧ 5 ≤ c.key.length ∧ okRow M c = true) ∧ Only [] w3 wr) (fun _ i _ => n - (intOf i).toNat)
 case atStart => exact ⟨0, [], Nat.zero_le _, rfl, rfl, fun c hc => by simp at hc, .inl rfl, Only.refl [] _⟩
 case round =>
  obtain ⟨k, lt, hk, rfl, rfl, hall, hlt0, kr⟩ := hrel
  by_cases hlt : k < n
  ·have hk' : k < U.length := by have := HN.out; omega
   obtain ⟨g, off, rfl, _, hat⟩ := hB.get hk'
   obtain ⟨c0, c1, c2⟩ := chs_at (hat.kept kr (by simp)) hk'
   have hmem : U[k] ∈ U := List.getElem_mem hk'
   have h16 := hsmall.out _ hmem
   have hnext := fun (hf : okRow M U[k] = true) => all_take hk' hall.out hf
   have hbad := fun (hf : okRow M U[k] = false) => not_all hmem hf
   have hsz := strOf_size U[k].key
   have hup := fun (h5 : 5 ≤ U[k].key.length) => upto_strOf (P := Tryz.prog) 9 Tryz.underlying9 U[k].key 5 5 .i64 rfl h5
   have hfr := fun (h5 : 5 ≤ U[k].key.length) => from_strOf (P := Tryz.prog) 9 Tryz.underlying9 (U[k].key.take 5) 1 1 .i64 rfl (by rw [List.length_take]; omega)
   have heq := beq_toList (U[k].key.take 5) lt
   have hok : okRow M U[k] = (decide (5 ≤ U[k].key.length) && ldOk (underL M (headB (fileOf U[k].key)))) := rfl
   have hnum := fun W => numberOf_any W ((U[k].key.take 5).drop 1) (by rw [List.length_drop, List.length_take]; omega)
   have hfile : numOf ((U[k].key.take 5).drop 1) = fileOf U[k].key := rfl
   have hflt := numOf_lt ((U[k].key.take 5).drop 1)
   have hnew : 5 ≤ U[k].key.length → okRow M U[k] = true → (U[k].key.take 5 = [] ∨ ∃ c : Ch, U[k].key.take 5 = c.key.take 5 ∧ 5 ≤ c.key.length ∧ okRow M c = true) := fun h1 h2 => .inr ⟨U[k], rfl, h1, h2⟩
   rw [hfile] at hnum hflt
   have k1r := k3.trans kr
   generalize hch : U[k] = ch at *
   obtain ⟨ky, vl, gn⟩ := ch
   simp only at c0 c1 c2 h16 hsz hup hfr heq hnum hflt hok hnew
   have hloadc := hload.out
   generalize fileOf ky = fl at *
   generalize hst : ky.take 5 = st at *
   have hstl : 5 ≤ ky.length → st.length = 5 := fun h5 => by rw [← hst, List.length_take]; omega
   generalize strOf (st.drop 1) = d1 at *
   generalize hvs : strOf vl = vs at *
   generalize hks : strOf ky = ks at *
   replace hst := Lib.hid hst
   replace hch := Lib.hid hch
   replace hvs := Lib.hid hvs
   replace hks := Lib.hid hks
   clear hat hmem h16
   replace hfile := Lib.hid hfile
   replace hstl := Lib.hid hstl
   by_cases h5 : 5 ≤ ky.length
   ·have hup' := hup h5
    have hfr' := hfr h5
    have hnl : ¬ (ks.size : Int) < 5 := by omega
    have hnl2 : decide ((ks.size : Int) < 5) = false := by simp; omega
    clear hup hfr
    by_cases hsame : st = lt
    ·-- the same object as the row ahead
     have hb1 : (st == lt) = true := by rw [hsame]; simp
     rw [hb1] at heq
     have hokr : okRow M ⟨ky, vl, gn⟩ = true := by
      rcases hlt0.out with h0 | ⟨c, e1, e2, e3⟩
      ·exfalso
       have := hstl.out h5
       rw [hsame, h0] at this
       simp at this
      ·rw [hok, decide_eq_true h5, Bool.true_and]
       have e4 : okRow M c = (decide (5 ≤ c.key.length) && ldOk (underL M (headB (fileOf c.key)))) := rfl
       rw [e4, Bool.and_eq_true] at e3
       have e5 : fileOf c.key = fl := by unfold fileOf; rw [← e1, ← hsame]; exact hfile.out
       rw [← e5]
       exact e3.2
     have hn := hnext hokr
     replace hn := Lib.hid hn
     clear hnext hbad hnew hb1
     replace hok := Lib.hid hok
     replace hokr := Lib.hid hokr
     replace hsame := Lib.hid hsame
     replace hsz := Lib.hid hsz
     replace h5 := Lib.hid h5
     generalize strOf st = ss at *
     generalize hls : strOf lt = ls at *
     have hlsE := Lib.hid (congrArg Value.string hls.symm)
     replace hls := Lib.hid hls
     go_wp2
     go_roundw
     case rel => exact ⟨k + 1, lt, by omega, by go_num, hlsE.out, hn, hlt0, kr.alloc _⟩
     case measure => simp [intOf]; omega
    ·have hb1 : (st == lt) = false := by rw [beq_eq_false_iff_ne]; exact hsame
     rw [hb1] at heq
     have hlc := fun W (k : Only [] w1 W) => hload.out W k fl hflt
     have kx : Only [] w1 (wr.alloc (.cells #[.string ks, .string vs, .bool gn] 133)) := k1r.alloc _
     have ky' : Only [] w3 (wr.alloc (.cells #[.string ks, .string vs, .bool gn] 133)) := kr.alloc _
     replace hsame := Lib.hid hsame
     replace hsz := Lib.hid hsz
     cases hld : ldOk (underL M (headB fl)) with
     | true =>
      have hokr : okRow M ⟨ky, vl, gn⟩ = true := by rw [hok, decide_eq_true h5, hld]; rfl
      have hn := hnext hokr
      have hnw := hnew h5 hokr
      rw [hld] at hlc
      replace hn := Lib.hid hn
      replace hnw := Lib.hid hnw
      replace hlc := Lib.hid hlc
      clear hnext hbad hnew hb1
      replace hok := Lib.hid hok
      replace hokr := Lib.hid hokr
      replace h5 := Lib.hid h5
      replace hld := Lib.hid hld
      generalize hsst : strOf st = ss at *
      have hssE := Lib.hid (congrArg Value.string hsst.symm)
      replace hsst := Lib.hid hsst
      generalize strOf lt = ls at *
      go_wp2_with fail
      refine (hnum _).mono ?_; rintro e w5 ⟨rfl, k5⟩
      go_wp2_with fail
      refine (hlc.out _ (kx.trans k5)).mono ?_; rintro e w6 ⟨v6, rfl, hm6⟩
      have k6 := hm6.only
      have kend := (ky'.trans k5).trans k6
      replace kend := Lib.hid kend
      clear hm6 k5 k6 kx ky'
      unfold errL
      go_wp2
      go_roundw
      case rel => exact ⟨k + 1, st, by omega, by go_num, hssE.out, hn, hnw, kend.out⟩
      case measure => simp [intOf]; omega
     | false =>
      have hokr : okRow M ⟨ky, vl, gn⟩ = false := by rw [hok, hld, Bool.and_false]
      have hr := hfin.out false (hbad hokr)
      rw [hld] at hlc
      replace hlc := Lib.hid hlc
      clear hnext hbad hnew hb1
      replace hok := Lib.hid hok
      replace hokr := Lib.hid hokr
      replace h5 := Lib.hid h5
      replace hld := Lib.hid hld
      subst hr
      generalize strOf st = ss at *
      generalize strOf lt = ls at *
      go_wp2_with fail
      refine (hnum _).mono ?_; rintro e w5 ⟨rfl, k5⟩
      go_wp2_with fail
      refine (hlc.out _ (kx.trans k5)).mono ?_; rintro e w6 ⟨v6, rfl, hm6⟩
      have k6 := hm6.only
      have kend := (kx.trans k5).trans k6
      replace kend := Lib.hid kend
      clear hm6 k5 k6 kx ky'
      unfold errL
      go_wp2
      go_ret
      exact ⟨rfl, kend.out⟩
   ·have hlt5 : (ks.size : Int) < 5 := by omega
    have hlt6 : decide ((ks.size : Int) < 5) = true := by simp; omega
    have hokr : okRow M ⟨ky, vl, gn⟩ = false := by rw [hok, decide_eq_false h5, Bool.false_and]
    have hr := hfin.out false (hbad hokr)
    have kend : Only [] w1 (wr.alloc (.cells #[.string ks, .string vs, .bool gn] 133)) := k1r.alloc _
    subst hr
    replace kend := Lib.hid kend
    clear hnext hbad hnew hup hfr heq hnum
    replace hok := Lib.hid hok
    replace hokr := Lib.hid hokr
    replace hsz := Lib.hid hsz
    go_wp2
    go_ret
    exact ⟨rfl, kend.out⟩
  ·have hkn : U.take k = U := List.take_of_length_le (by have := HN.out; omega)
   rw [hkn] at hall
   have hr := hfin.out true (List.all_eq_true.2 hall.out)
   subst hr
   have k1r := k3.trans kr
   go_wp2
   go_ret
   exact ⟨rfl, k1r⟩
end Go.Proofs.YtmelaiefbpdifaaGreatDoor.Srv
namespace Go.Proofs.YtmelaiefbpdifaaGreatDoor.Srv
open Go.RowKit Go.Maps
open Pgs (Pg pgE keyB headB ldL ldOk errL load_at under_at)
set_option maxRecDepth 100000 in
set_option maxHeartbeats 4000000 in
theorem sound_any (w1 : World) (rp mb lp : Nat) (M : List Rw) (hR : RowsB w1 rp mb lp M) (hS : Sorted M) (hM : M.length ≤ 1024) (hsm : ∀ r ∈ M, 1 ≤ r.key.length ∧ r.key.length ≤ 16 ∧ r.val.length ≤ 200) :
  Calls Tryz.prog 45 #[.pointer (some ⟨rp, 0, none⟩)] w1 fun e w' => e = .returned (.bool (soundB M)) ∧ Only [] w1 w' := by
 have hget := get_any w1 rp mb lp M bK (by decide) hR
 change Calls _ _ #[_, .string ⟨#[66]⟩] w1 _ at hget
 have hund := fun W (k : Only [] w1 W) => under_at W rp mb lp M (hR.kept k (by simp) (by simp)) hS (by omega) [69]
 change ∀ W, Only [] w1 W → Calls _ _ #[_, .string ⟨#[69]⟩] W _ at hund
 have hload := fun W (k : Only [] w1 W) => loadable_any W rp mb lp M (hR.kept k (by simp) (by simp)) hS hM hsm
 have hlen : (underL M [69]).length ≤ 1024 := by
  have h3 : (underL M [69]).length ≤ M.length := by unfold underL; rw [List.length_map]; exact List.length_filter_le _ _
  omega
 have hsz := strOf_size (valL M bK)
 have hsmall : ∀ c ∈ underL M [69], c.key.length ≤ 16 ∧ c.val.length ≤ 200 := fun c hc => small_under hsm hc
 have hdef : soundB M = ((!((findR M bK).isSome && decide ((valL M bK).length ≠ 4))) && ((underL M [69]).all okEp && loadB M)) := rfl
 clear hR hS hM hsm
 generalize hres : soundB M = res at *
 generalize (findR M bK).isSome = b at *
 generalize hvl : (valL M bK) = vl at *
 generalize strOf vl = vs at *
 generalize hU : underL M [69] = U at *
 generalize loadB M = lb at *
 replace hsmall := Lib.hid hsmall
 replace hres := Lib.hid hres
 replace hvl := Lib.hid hvl
 replace hU := Lib.hid hU
 replace hload := Lib.hid hload
 replace hund := Lib.hid hund
 by_cases hb4 : b = true ∧ vl.length ≠ 4
 ·obtain ⟨rfl, h4⟩ := hb4
  have hr : res = false := by rw [hdef, decide_eq_true h4]; rfl
  subst hr
  have d1 : ((vs.size : Int) != 4) = true := by rw [bne_iff_ne]; omega
  replace hdef := Lib.hid hdef
  replace hsz := Lib.hid hsz
  go_enter Tryz.func45, Tryz.ntmps45
  go_wp2_with fail
  refine hget.mono ?_; rintro e w2 ⟨rfl, k2⟩
  go_wp2
  go_ret
  exact ⟨rfl, k2⟩
 have hdef2 : res = (U.all okEp && lb) := by
  rw [hdef]
  cases b with
  | false => rfl
  | true =>
   have : vl.length = 4 := Decidable.byContradiction fun h => hb4 ⟨rfl, h⟩
   rw [this]; rfl
 have hcase : (b = false) ∨ (b = true ∧ ((vs.size : Int) != 4) = false) := by
  cases b with
  | false => exact .inl rfl
  | true =>
   refine .inr ⟨rfl, ?_⟩
   have : vl.length = 4 := Decidable.byContradiction fun h => hb4 ⟨rfl, h⟩
   rw [bne_eq_false_iff_eq]; omega
 replace hdef := Lib.hid hdef2
 clear hb4 hdef2
 replace hsz := Lib.hid hsz
 rcases hcase with rfl | ⟨rfl, d1⟩
 ·go_enter Tryz.func45, Tryz.ntmps45
  go_wp2_with fail
  refine hget.mono ?_; rintro e w2 ⟨rfl, k2⟩
  clear hget
  go_wp2_with fail
  refine (hund.out _ k2).mono ?_; rintro e w3 ⟨v, rfl, hne⟩
  obtain ⟨B, cb, rfl, hcb, hB, k3, _⟩ := hne
  obtain ⟨n, hn⟩ : ∃ n, n = U.length := ⟨_, rfl⟩
  rw [← hn] at hlen hcb ⊢
  have HN := Lib.hid hn
  have k13 := k2.trans k3
  clear hn k2 k3
  go_wp2_with fail
  go_loopw [21] (fun i wr => ∃ (k : Nat), k ≤ n ∧ i = .int .i64 k ∧ Hid (∀ c ∈ U.take k, okEp c = true) ∧ Only [] w3 wr) (fun i _ => n - (intOf i).toNat)
  case atStart => exact ⟨0, Nat.zero_le _, rfl, fun c hc => by simp at hc, Only.refl [] _⟩
  case round =>
   obtain ⟨k, hk, rfl, hall, kr⟩ := hrel
   by_cases hlt : k < n
   ·have hk' : k < U.length := by have := HN.out; omega
    obtain ⟨g, off, rfl, _, hat⟩ := hB.get hk'
    obtain ⟨c0, c1, c2⟩ := chs_at (hat.kept kr (by simp)) hk'
    have hmem : U[k] ∈ U := List.getElem_mem hk'
    have hsm2 := hsmall.out _ hmem
    have hnext := fun (hf : okEp U[k] = true) => all_take hk' hall.out hf
    have hbad := fun (hf : okEp U[k] = false) => not_all hmem hf
    have s0 := strOf_size U[k].key
    have s1 := strOf_size U[k].val
    have hok : okEp U[k] = (decide (U[k].key.length = 5) && decide (U[k].val.length = 4)) := rfl
    generalize hch : U[k] = ch at *
    obtain ⟨ky, vy, gn⟩ := ch
    simp only at c0 c1 c2 s0 s1 hok hsm2
    generalize strOf vy = vys at *
    generalize strOf ky = ks at *
    replace hch := Lib.hid hch
    have kx : Only [] w1 (wr.alloc (.cells #[.string ks, .string vys, .bool gn] 133)) := (k13.trans kr).alloc _
    have kx3 : Only [] w3 (wr.alloc (.cells #[.string ks, .string vys, .bool gn] 133)) := kr.alloc _
    by_cases h5 : ky.length = 5
    ·have e1 : ((ks.size : Int) != 5) = false := by rw [bne_eq_false_iff_eq]; omega
     by_cases h4 : vy.length = 4
     ·have e2 : ((vys.size : Int) != 4) = false := by rw [bne_eq_false_iff_eq]; omega
      have hn := hnext (by rw [hok, decide_eq_true h5, decide_eq_true h4]; rfl)
      replace hn := Lib.hid hn
      clear hnext hbad
      replace hok := Lib.hid hok
      replace s0 := Lib.hid s0
      replace s1 := Lib.hid s1
      replace h5 := Lib.hid h5
      replace h4 := Lib.hid h4
      clear hat hsm2 hmem kx
      go_wp2
      go_roundw
      case rel => exact ⟨k + 1, by omega, by go_num, hn, kx3⟩
      case measure => simp [intOf]; omega
     ·have e2 : ((vys.size : Int) != 4) = true := by rw [bne_iff_ne]; omega
      have hr : res = false := by rw [hdef.out, hbad (by rw [hok, decide_eq_false h4, Bool.and_false])]; rfl
      subst hr
      clear hnext hbad
      replace hok := Lib.hid hok
      replace s0 := Lib.hid s0
      replace s1 := Lib.hid s1
      replace h5 := Lib.hid h5
      replace kx := Lib.hid kx
      clear hat hsm2 hmem kx3
      go_wp2
      go_ret
      exact ⟨rfl, kx.out⟩
    ·have e1 : ((ks.size : Int) != 5) = true := by rw [bne_iff_ne]; omega
     have hr : res = false := by rw [hdef.out, hbad (by rw [hok, decide_eq_false h5, Bool.false_and])]; rfl
     subst hr
     clear hnext hbad
     replace hok := Lib.hid hok
     replace s0 := Lib.hid s0
     replace s1 := Lib.hid s1
     replace kx := Lib.hid kx
     clear hat hsm2 hmem kx3
     go_wp2
     go_ret
     exact ⟨rfl, kx.out⟩
   ·have hkn : U.take k = U := List.take_of_length_le (by have := HN.out; omega)
    rw [hkn] at hall
    have hr : res = lb := by rw [hdef.out, List.all_eq_true.2 hall.out]; rfl
    subst hr
    have k1r := k13.trans kr
    go_wp2_with fail
    refine (hload.out _ k1r).mono ?_; rintro e w5 ⟨rfl, k5⟩
    have kend := k1r.trans k5
    go_wp2
    go_ret
    exact ⟨rfl, kend⟩
 ·go_enter Tryz.func45, Tryz.ntmps45
  go_wp2_with fail
  refine hget.mono ?_; rintro e w2 ⟨rfl, k2⟩
  clear hget
  go_wp2_with fail
  refine (hund.out _ k2).mono ?_; rintro e w3 ⟨v, rfl, hne⟩
  obtain ⟨B, cb, rfl, hcb, hB, k3, _⟩ := hne
  obtain ⟨n, hn⟩ : ∃ n, n = U.length := ⟨_, rfl⟩
  rw [← hn] at hlen hcb ⊢
  have HN := Lib.hid hn
  have k13 := k2.trans k3
  clear hn k2 k3
  go_wp2_with fail
  go_loopw [21] (fun i wr => ∃ (k : Nat), k ≤ n ∧ i = .int .i64 k ∧ Hid (∀ c ∈ U.take k, okEp c = true) ∧ Only [] w3 wr) (fun i _ => n - (intOf i).toNat)
  case atStart => exact ⟨0, Nat.zero_le _, rfl, fun c hc => by simp at hc, Only.refl [] _⟩
  case round =>
   obtain ⟨k, hk, rfl, hall, kr⟩ := hrel
   by_cases hlt : k < n
   ·have hk' : k < U.length := by have := HN.out; omega
    obtain ⟨g, off, rfl, _, hat⟩ := hB.get hk'
    obtain ⟨c0, c1, c2⟩ := chs_at (hat.kept kr (by simp)) hk'
    have hmem : U[k] ∈ U := List.getElem_mem hk'
    have hsm2 := hsmall.out _ hmem
    have hnext := fun (hf : okEp U[k] = true) => all_take hk' hall.out hf
    have hbad := fun (hf : okEp U[k] = false) => not_all hmem hf
    have s0 := strOf_size U[k].key
    have s1 := strOf_size U[k].val
    have hok : okEp U[k] = (decide (U[k].key.length = 5) && decide (U[k].val.length = 4)) := rfl
    generalize hch : U[k] = ch at *
    obtain ⟨ky, vy, gn⟩ := ch
    simp only at c0 c1 c2 s0 s1 hok hsm2
    generalize strOf vy = vys at *
    generalize strOf ky = ks at *
    replace hch := Lib.hid hch
    have kx : Only [] w1 (wr.alloc (.cells #[.string ks, .string vys, .bool gn] 133)) := (k13.trans kr).alloc _
    have kx3 : Only [] w3 (wr.alloc (.cells #[.string ks, .string vys, .bool gn] 133)) := kr.alloc _
    by_cases h5 : ky.length = 5
    ·have e1 : ((ks.size : Int) != 5) = false := by rw [bne_eq_false_iff_eq]; omega
     by_cases h4 : vy.length = 4
     ·have e2 : ((vys.size : Int) != 4) = false := by rw [bne_eq_false_iff_eq]; omega
      have hn := hnext (by rw [hok, decide_eq_true h5, decide_eq_true h4]; rfl)
      replace hn := Lib.hid hn
      clear hnext hbad
      replace hok := Lib.hid hok
      replace s0 := Lib.hid s0
      replace s1 := Lib.hid s1
      replace h5 := Lib.hid h5
      replace h4 := Lib.hid h4
      clear hat hsm2 hmem kx
      go_wp2
      go_roundw
      case rel => exact ⟨k + 1, by omega, by go_num, hn, kx3⟩
      case measure => simp [intOf]; omega
     ·have e2 : ((vys.size : Int) != 4) = true := by rw [bne_iff_ne]; omega
      have hr : res = false := by rw [hdef.out, hbad (by rw [hok, decide_eq_false h4, Bool.and_false])]; rfl
      subst hr
      clear hnext hbad
      replace hok := Lib.hid hok
      replace s0 := Lib.hid s0
      replace s1 := Lib.hid s1
      replace h5 := Lib.hid h5
      replace kx := Lib.hid kx
      clear hat hsm2 hmem kx3
      go_wp2
      go_ret
      exact ⟨rfl, kx.out⟩
    ·have e1 : ((ks.size : Int) != 5) = true := by rw [bne_iff_ne]; omega
     have hr : res = false := by rw [hdef.out, hbad (by rw [hok, decide_eq_false h5, Bool.false_and])]; rfl
     subst hr
     clear hnext hbad
     replace hok := Lib.hid hok
     replace s0 := Lib.hid s0
     replace s1 := Lib.hid s1
     replace kx := Lib.hid kx
     clear hat hsm2 hmem kx3
     go_wp2
     go_ret
     exact ⟨rfl, kx.out⟩
   ·have hkn : U.take k = U := List.take_of_length_le (by have := HN.out; omega)
    rw [hkn] at hall
    have hr : res = lb := by rw [hdef.out, List.all_eq_true.2 hall.out]; rfl
    subst hr
    have k1r := k13.trans kr
    go_wp2_with fail
    refine (hload.out _ k1r).mono ?_; rintro e w5 ⟨rfl, k5⟩
    have kend := k1r.trans k5
    go_wp2
    go_ret
    exact ⟨rfl, kend⟩
end Go.Proofs.YtmelaiefbpdifaaGreatDoor.Srv
namespace Go.Proofs.YtmelaiefbpdifaaGreatDoor.Srv
open Go.RowKit Go.Maps
open Pgs (Pg)
def noSeat : Sat := ⟨0, 0, ⟨#[]⟩⟩
def srv0 (N : Nat) (me b : Int) (M : List Rw) : Sv := ⟨N, me, b, true, M, [], fun _ => noSeat⟩
def srvZ : List Value := .int .i64 0 :: .int .u32 0 :: .bool false :: .pointer none :: .map none :: seatCs (fun _ => noSeat)
theorem zero_srv : (Tryz.prog.info? 116).map (fun i => (i.zero, i.size)) = some (some (.agg srvZ.toArray), 773) := by kernel_rfl
def StartR (N : Nat) (s : St) (me x : Int) : Prop :=
 (¬ (1 ≤ me ∧ me ≤ 255) ∧ x = 1) ∨ ((1 ≤ me ∧ me ≤ 255) ∧ (Fails5 s x ∨ ∃ M, openErr s = 0 ∧ parseL (dataS (openSt s)) = some M ∧
  ((soundB M = false ∧ x = 25) ∨ (soundB M = true ∧ x ≠ 0 ∧ ∃ b M' s' n' f', Begun N M (openSt s) (openN s) b x M' s' n' f'))))
def StartM (w w1 w' : World) (F : List Nat) (dp N : Nat) (s : St) (me : Int) (e : Ending) : Prop :=
 (∃ x, StartR N s me x ∧ e = .returned (.tuple #[.pointer none, .int .i64 x]) ∧ Only [] w w') ∨
 (∃ sb R b M M' s' n' f', (1 ≤ me ∧ me ≤ 255) ∧ openErr s = 0 ∧ parseL (dataS (openSt s)) = some M ∧ soundB M = true ∧ Begun N M (openSt s) (openN s) b 0 M' s' n' f' ∧
  e = .returned (.tuple #[.pointer (some ⟨sb, 0, none⟩), .int .i64 0]) ∧ SrvM w w' R sb dp (srv0 N me b M') s' n' f' 0 ∧ Only F w1 w' ∧ ∀ j ∈ R, j ∈ F ∨ w1.heap.size ≤ j)
theorem begun_range {N : Nat} {M M' : List Rw} {s s' : St} {n n' : Nat} {b x : Int} {f' : Bool} (h : Begun N M s n b x M' s' n' f') : U b := by
 rcases h with ⟨_, rfl, _⟩ | ⟨h1, _, rfl⟩
 ·unfold U; decide
 ·unfold U
  split <;> omega
theorem begun_len {N : Nat} {M M' : List Rw} {s s' : St} {n n' : Nat} {b x : Int} {f' : Bool} (h : Begun N M s n b x M' s' n' f') : s'.firm.length = s.firm.length := by
 rcases h with ⟨_, _, _, _, rfl, _⟩ | ⟨_, h2, _⟩
 ·rfl
 ·exact commits5_len h2
theorem begun_good {N : Nat} {M M' : List Rw} {s s' : St} {n n' : Nat} {b x : Int} {f' : Bool} (hM : Good N M) (h : Begun N M s n b x M' s' n' f') : Good N M' := by
 rcases h with ⟨_, _, _, rfl, _⟩ | ⟨_, h2, _⟩
 ·exact hM
 ·exact commits5_good hM h2
section
variable {w w1 : World} {F : List Nat} {dp N : Nat} {s : St}
set_option maxRecDepth 100000 in
set_option maxHeartbeats 8000000 in
theorem OwnD.startC (h : OwnD w w1 F dp s) (me : Int) (hme : I me) (hlate : s.late.length + 40 ≤ 1048576) (hlen : (openSt s).firm.length = 41 + N) (hlate2 : (openSt s).late.length + 200 ≤ 1048576) (hn : openN s < 4294967296)
  (hgood : ∀ M, parseL (dataS (openSt s)) = some M → Good N M) :
  Calls Tryz.prog 15 #[.pointer (some ⟨dp, 0, none⟩), .int .i64 me] w1 fun e w' => StartM w w1 w' F dp N s me e := by
 have hop := h.opens5 hlate
 have honly := h.only
 have hFw : ∀ i ∈ F, w.heap.size ≤ i := fun i hi => (h.new i hi).1
 have hF1 : ∀ i ∈ F, i < w1.heap.size := fun i hi => (h.new i hi).2
 clear h
 have hno : ∀ W x, Only [] w W → StartR N s me x → StartM w w1 W F dp N s me (.returned (.tuple #[.pointer none, .int .i64 x])) := fun W x k hr => .inl ⟨x, hr, rfl, k⟩
 replace hno := Lib.hid hno
 replace hFw := Lib.hid hFw
 replace hF1 := Lib.hid hF1
 replace hgood := Lib.hid hgood
 obtain ⟨i1, i2⟩ := hme
 by_cases hlo : me < 1
 ·have hfin := hno.out w1 1 honly (.inl ⟨by omega, rfl⟩)
  replace hfin := Lib.hid hfin
  have d1 : decide (me < 1) = true := by simpa using hlo
  clear hop
  go_enter Tryz.func15, Tryz.ntmps15
  go_wp2
  go_ret2
  exact hfin.out
 have d1 : decide (me < 1) = false := by simpa using hlo
 by_cases hhi : 255 < me
 ·have hfin := hno.out w1 1 honly (.inl ⟨by omega, rfl⟩)
  replace hfin := Lib.hid hfin
  have d2 : decide (255 < me) = true := by simpa using hhi
  clear hop hlo
  go_enter Tryz.func15, Tryz.ntmps15
  go_wp2
  go_ret2
  exact hfin.out
 have d2 : decide (255 < me) = false := by simpa using hhi
 have hin : 1 ≤ me ∧ me ≤ 255 := ⟨by omega, by omega⟩
 replace hin := Lib.hid hin
 clear hlo hhi
 go_enter Tryz.func15, Tryz.ntmps15
 go_wp2_with fail
 refine hop.mono ?_
 rintro e w2 ⟨F2, k2, hF2, hcase⟩
 have kw2 : Only [] w w2 := honly.then k2 (fun i hi => .inr (hFw.out i hi))
 rcases hcase with ⟨x, hf, rfl, _⟩ | ⟨rp, mb, lp, M, ho0, hp, rfl, h5, q1, q2, q3⟩
 ·have hfin := hno.out w2 x kw2 (.inr ⟨hin.out, .inl hf⟩)
  replace hfin := Lib.hid hfin
  have hx0 : x ≠ 0 := by
   rcases hf with ⟨h1, rfl⟩ | ⟨_, _, rfl⟩
   ·exact h1
   ·decide
  have hx2 : (x == 0) = false := by rw [beq_eq_false_iff_ne]; exact hx0
  have hx3 : (x != 0) = true := by rw [bne_iff_ne]; exact hx0
  clear hf kw2 k2
  go_wp2
  go_ret2
  exact hfin.out
 ·have hG := hgood.out M hp
  have hMl := hG.length
  have hfew := h5.own.dev.fine.few
  have hsnd := sound_any w2 rp mb lp M h5.rows hG.sorted (by omega) hG.small
  cases hs : soundB M with
  | false =>
   rw [hs] at hsnd
   go_wp2_with fail
   refine hsnd.mono ?_; rintro e w3 ⟨rfl, k3⟩
   have hfin := hno.out w3 25 (kw2.trans k3) (.inr ⟨hin.out, .inr ⟨M, ho0, hp, .inl ⟨hs, rfl⟩⟩⟩)
   replace hfin := Lib.hid hfin
   clear hs hp h5 k2 k3 hsnd
   go_wp2
   go_ret2
   exact hfin.out
  | true =>
   rw [hs] at hsnd
   have hbg := fun W (k : Only [] w2 W) => begin_any (h5.keep k) hlen hG hn hlate2
   replace hbg := Lib.hid hbg
   replace hs := Lib.hid hs
   replace hp := Lib.hid hp
   replace ho0 := Lib.hid ho0
   replace hlen := Lib.hid hlen
   replace hG := Lib.hid hG
   go_wp2_with fail
   refine hsnd.mono ?_; rintro e w3 ⟨rfl, k3⟩
   have hRpn := h5.rows.hdr.lt
   clear hsnd
   go_wp2_with fail
   refine (hbg.out _ k3).mono ?_
   rintro e w4 ⟨b, x, M', s', n', f', F', rfl, hb, h54, k4, hF4⟩
   have hbr := begun_range hb
   have kw4 : Only [] w w4 := h54.own.only
   have k14 : Only (F ++ (mb :: lp :: F2)) w1 w4 := ((k2.more (T := F ++ (mb :: lp :: F2)) (fun i hi => .inl (List.mem_append.2 (.inl hi)))).then k3 (by simp)).then k4 (fun i hi => .inl (List.mem_append.2 (.inr hi)))
   by_cases hx : x = 0
   ·subst hx
    have hFall : ∀ i ∈ mb :: lp :: F2, i ∈ F ∨ w1.heap.size ≤ i := fun i hi => by
     simp only [List.mem_cons] at hi
     rcases hi with rfl | rfl | hi
     ·exact .inr q2
     ·exact .inr q3
     ·exact hF2 i hi
    have k14F : Only F w1 w4 := k14.more (fun i hi => by
     rcases List.mem_append.1 hi with hi | hi
     ·exact .inl hi
     ·exact hFall i hi)
    have hF4' : ∀ j ∈ F', j ∈ F ∨ w1.heap.size ≤ j := fun j hj => by
     rcases hF4 j hj with h' | h'
     ·exact hFall j (by simp [h'])
     ·have h1 := k2.size
      have h2 := k3.size
      exact .inr (by omega)
    have hz0 := (zero_of_info zero_srv).1
    unfold srvZ at hz0
    obtain ⟨rest, hrest⟩ : ∃ rest, rest = seatCs (fun _ => noSeat) := ⟨_, rfl⟩
    rw [← hrest] at hz0
    have hcs : srvCs (srv0 N me b M') rp w4.heap.size = .int .i64 me :: .int .u32 b :: .bool true :: .pointer (some ⟨rp, 0, none⟩) :: .map (some w4.heap.size) :: rest := by
     rw [hrest]; rfl
    replace hrest := Lib.hid hrest
    have km : Only [] w4 (w4.alloc (.map #[] 0)) := (Only.refl [] w4).alloc _
    have hl5 := LooseB.new w4 (fun _ => .slice none 0 0)
    have kb : Only [] w4 ((w4.alloc (.map #[] 0)).alloc (.cells (srvCs (srv0 N me b M') rp w4.heap.size).toArray 116)) := km.alloc _
    have hb6 : Blk ((w4.alloc (.map #[] 0)).alloc (.cells (srvCs (srv0 N me b M') rp w4.heap.size).toArray 116)) (w4.heap.size + 1) 116 (srvCs (srv0 N me b M') rp w4.heap.size).toArray := by
     have := Blk.new (w4.alloc (.map #[] 0)) 116 (srvCs (srv0 N me b M') rp w4.heap.size).toArray
     rwa [show (w4.alloc (.map #[] 0)).heap.size = w4.heap.size + 1 by simp] at this
    have hl6 := hl5.kept ((Only.refl [] (w4.alloc (.map #[] 0))).alloc (.cells (srvCs (srv0 N me b M') rp w4.heap.size).toArray 116)) (by simp)
    have h56 := h54.keep kb
    have hrp4 : rp < w4.heap.size := h54.rows.hdr.lt
    have hmb4 : mb < w4.heap.size := h54.rows.map.lt
    have hlp4 : lp < w4.heap.size := h54.own.lt
    have hnF : ∀ i ∈ F', w.heap.size ≤ i ∧ i < w4.heap.size := h54.own.new
    have hsz6 : ((w4.alloc (.map #[] 0)).alloc (.cells (srvCs (srv0 N me b M') rp w4.heap.size).toArray 116)).heap.size = w4.heap.size + 2 := by simp
    have hNd : N ≤ 983 := by
     have := hlen.out
     omega
    have hfin : SrvM w ((w4.alloc (.map #[] 0)).alloc (.cells (srvCs (srv0 N me b M') rp w4.heap.size).toArray 116)) ((w4.heap.size + 1) :: w4.heap.size :: rp :: mb :: lp :: F') (w4.heap.size + 1) dp (srv0 N me b M') s' n' f' 0 := by
     refine ⟨rp, mb, lp, w4.heap.size, F', _, _, h56, hb6, hl6, fun x o hx => (by cases hx), by omega, ?_, ?_, fun i hi => hi, fun i hi => ?_, ?_, ?_, by omega⟩
     ·simp only [List.mem_cons, not_or]
      exact ⟨by omega, by omega, by omega, fun hm => by have := (hnF _ hm).2; omega⟩
     ·simp only [List.mem_cons, not_or]
      exact ⟨by omega, by omega, by omega, fun hm => by have := (hnF _ hm).2; omega⟩
     ·rw [hsz6]
      have hw4 := kw4.size
      simp only [List.mem_cons] at hi
      rcases hi with rfl | rfl | rfl | rfl | rfl | hi
      ·exact ⟨by omega, by omega⟩
      ·exact ⟨by omega, by omega⟩
      ·exact ⟨h54.old1, by omega⟩
      ·exact ⟨h54.old2, by omega⟩
      ·exact ⟨h54.own.old, by omega⟩
      ·have := hnF i hi; exact ⟨this.1, by omega⟩
     ·show s'.firm.length = 41 + N
      rw [begun_len hb]
      exact hlen.out
     ·refine ⟨begun_good hG.out hb, hNd, uniq_nil, fun q hq => (by cases hq), Nat.le_refl _, fun k => ?_, hin.out, hbr⟩
      exact ⟨⟨(by show U 0; unfold U; decide), (by show U 0; unfold U; decide)⟩, (by show (0 : Nat) ≤ 400; decide)⟩
    have hend : StartM w w1 ((w4.alloc (.map #[] 0)).alloc (.cells (srvCs (srv0 N me b M') rp w4.heap.size).toArray 116)) F dp N s me (.returned (.tuple #[.pointer (some ⟨w4.heap.size + 1, 0, none⟩), .int .i64 0])) := by
     refine .inr ⟨w4.heap.size + 1, _, b, M, M', s', n', f', hin.out, ho0.out, hp.out, hs.out, hb, rfl, hfin, k14F.then kb (by simp), fun j hj => ?_⟩
     have h14 := k14.size
     simp only [List.mem_cons] at hj
     rcases hj with rfl | rfl | rfl | rfl | rfl | hj
     ·exact .inr (by omega)
     ·exact .inr (by omega)
     ·exact .inr q1
     ·exact .inr q2
     ·exact .inr q3
     ·exact hF4' j hj
    rw [hcs] at hend
    replace hend := Lib.hid hend
    clear hfin hb6 hl6 h56 km hl5 kb hcs h54 k4 k3 k2 h5 hb hF4 hF4' k14 k14F hFall hnF hsz6 hop hbg
    have hmm := @run_makeMap Tryz.prog 111
    go_wp2
    go_ret2
    exact hend.out
   ·have hfin := hno.out w4 x kw4 (.inr ⟨hin.out, .inr ⟨M, ho0.out, hp.out, .inr ⟨hs.out, hx, b, M', s', n', f', hb⟩⟩⟩)
    replace hfin := Lib.hid hfin
    have hx2 : (x == 0) = false := by rw [beq_eq_false_iff_ne]; exact hx
    have hx3 : (x != 0) = true := by rw [bne_iff_ne]; exact hx
    clear hb h54 h5 k4 k3 k2 hF4 hbg hop k14
    go_wp2
    go_ret2
    exact hfin.out
end
end Go.Proofs.YtmelaiefbpdifaaGreatDoor.Srv
