/- Package xdr, as far as stage 4 calls it: a writer's numbers and bytes, a reader's numbers. -/
import Derived.Test.YtihoebmfanelkaaNum
import Derived.Test.YtihoebmfanelkaaForth
import Derived.LoopTactic
import Derived.Deep.QuietTactic
import Derived.BigQuiet
namespace Go.Proofs.Ytihoebmfanelkaa
open Go.RowKit

/-- The number that four bytes are. -/
def decB (a b c d : UInt8) : Nat := a.toNat * 16777216 + b.toNat * 65536 + c.toNat * 256 + d.toNat
theorem decB_lt (a b c d : UInt8) : decB a b c d < 4294967296 := by
  have := a.toNat_lt; have := b.toNat_lt; have := c.toNat_lt; have := d.toNat_lt
  unfold decB; omega
/-- The number that the first four bytes are. -/
def hd4 : List UInt8 → Nat
  | a :: b :: c :: d :: _ => decB a b c d
  | _ => 0
theorem hd4_lt (l : List UInt8) : hd4 l < 4294967296 := by
  unfold hd4
  split
  · exact decB_lt _ _ _ _
  · omega
theorem four (l : List UInt8) (h : 4 ≤ l.length) : ∃ a b c d r, l = a :: b :: c :: d :: r := by
  match l, h with
  | a :: b :: c :: d :: r, _ => exact ⟨a, b, c, d, r, rfl⟩

/-- What a reader's calls answer, and what is left: by the bytes that are left and the error's number. -/
def rNumber (bs : List UInt8) (err : Nat) : Nat × List UInt8 × Nat :=
  if err ≠ 0 then (0, bs, err) else if bs.length < 4 then (0, bs, 2) else (hd4 bs, bs.drop 4, 0)
theorem info_u8 : (Try.prog.info? 5).map (fun i => (i.zero, i.size, i.bytes)) = some (some (.int .u8 0), 1, 1) := by kernel_rfl

/-- The writer behind the pointer to block p has written bs; its bytes lie in a block of F. -/
def Wr (w : World) (p : Nat) (F : List Nat) (bs : List UInt8) : Prop :=
  ∃ v, Blk w p 113 #[v] ∧ w.ownsRow 0 5 1 v bs.length (byteVs bs) ∧ v.ownBlock ≠ some p ∧ ∀ k, v.ownBlock = some k → k ∈ F

/-- Behind a write: what is written, and what alone has turned. -/
def Wrote (w w' : World) (p : Nat) (F : List Nat) (bs : List UInt8) : Prop :=
  ∃ F', Wr w' p F' bs ∧ Only (p :: F) w w' ∧ ∀ k ∈ F', k ∈ F ∨ w.heap.size ≤ k

/-- What a call without results leaves, behind a name. -/
def Gives (R : World → Prop) (e : Ending) (w' : World) : Prop := e = .returned (.tuple #[]) ∧ R w'

theorem Wr.lt {w : World} {p : Nat} {F : List Nat} {bs : List UInt8} (h : Wr w p F bs) : p < w.heap.size := by
  obtain ⟨v, h1, _⟩ := h
  exact h1.lt

theorem Wr.kept {S : List Nat} {w w' : World} {p : Nat} {F : List Nat} {bs : List UInt8} (h : Wr w p F bs) (k : Only S w w') (hp : p ∉ S) (hF : ∀ i ∈ F, i ∉ S) : Wr w' p F bs := by
  obtain ⟨v, h1, h2, h3, h4⟩ := h
  exact ⟨v, h1.kept k hp, ownsRow_kept h2 k (fun g hg => hF g (h4 g hg)), h3, h4⟩

theorem Wrote.from {w w0 w' : World} {p : Nat} {F : List Nat} {bs : List UInt8} (k : Only [] w w0) (h : Wrote w0 w' p F bs) : Wrote w w' p F bs := by
  obtain ⟨F', h1, h2, h3⟩ := h
  refine ⟨F', h1, (k.more (T := p :: F) (by simp)).then h2 (fun _ hi => .inl hi), fun i hi => (h3 i hi).imp id (fun h => Nat.le_trans k.size h)⟩

theorem Wrote.join {w w1 w2 : World} {p : Nat} {F F1 : List Nat} {bs : List UInt8} (k : Only (p :: F) w w1) (hF : ∀ i ∈ F1, i ∈ F ∨ w.heap.size ≤ i) (h : Wrote w1 w2 p F1 bs) : Wrote w w2 p F bs := by
  obtain ⟨F2, h1, h2, h3⟩ := h
  refine ⟨F2, h1, k.then h2 (fun i hi => ?_), fun i hi => ?_⟩
  · rcases List.mem_cons.1 hi with rfl | hi
    · exact .inl (by simp)
    · exact (hF i hi).imp (fun h => by simp [h]) id
  · rcases h3 i hi with h | h
    · exact hF i h
    · exact .inr (Nat.le_trans k.size h)

theorem put_done {w w1 : World} {p : Nat} {F : List Nat} {bs l : List UInt8} {old v' : Value} (hb : Blk w p 113 #[old]) (hne : old.ownBlock ≠ some p) (hF : ∀ k, old.ownBlock = some k → k ∈ F)
    (hown1 : w1.ownsRow 0 5 1 v' (bs.length + l.length) (byteVs bs ++ byteVs l)) (hg : w.grownBy w1 old.ownBlock) (hat : v'.ownBlock = old.ownBlock ∨ v'.ownBlock = some w.heap.size) :
    Wrote w (w1.setCell ⟨p, 0, none⟩ v') p F (bs ++ l) := by
  have hb1 : Blk w1 p 113 #[old] := (hg.block p hb.lt (fun e => hne e.symm)).trans hb
  have hv : v'.ownBlock ≠ some p := by
    rcases hat with h | h
    · rw [h]; exact hne
    · rw [h]; intro e; injection e with e; have := hb.lt; omega
  refine ⟨v'.ownBlock.toList, ⟨v', by simpa using hb1.set 0 v', ?_, hv, fun k hk => by simp [hk]⟩, ?_, fun k hk => ?_⟩
  · rw [List.length_append, byteVs_append]
    exact ownsRow_far hown1 hv _
  · exact ((Only.refl (p :: F) w).grown hg (fun k hk => .inl (by simp [hF k hk]))).setCell (.inl (by simp)) _
  · have hk' : v'.ownBlock = some k := by simpa using hk
    rcases hat with h | h
    · exact .inl (hF k (by rw [← h]; exact hk'))
    · rw [h] at hk'
      injection hk' with hk'
      exact .inr (by omega)

set_option maxHeartbeats 400000 in
theorem put_any (w : World) (p : Nat) (F : List Nat) (bs : List UInt8) (x : Value) (l : List UInt8) (hw : Wr w p F bs) (hx : SrcV w x l.length (byteVs l)) (hlen : bs.length + l.length ≤ 1048576) :
    Calls Try.prog 72 #[.pointer (some ⟨p, 0, none⟩), x] w (Gives (fun w' => Wrote w w' p F (bs ++ l))) := by
  obtain ⟨v, hb, hown, hne, hF⟩ := hw
  obtain ⟨A, c, rfl⟩ := ownsRow_slice hown
  obtain ⟨A', c', rfl, hrest⟩ := id hx
  have hcell := hb.cell 0
  simp only [List.getElem?_toArray, List.getElem?_cons_zero] at hcell
  go_enter Try.func72, Try.ntmps72
  go_wp2_with (at_builtin; refine wpList_append_src _ rfl (.tmp 10) (.tmp 11) 85 rfl 5 (.int .u8 0) 1 Try.underlying85 info_u8 rfl (.slice A bs.length c) bs.length (byteVs bs) rfl hown (.slice A' l.length c') l.length (byteVs l) rfl hx (byteVs_one l) ?c1 ?c2 ?go)
  case c1 => unfold maxLen; omega
  case c2 => omega
  case go =>
    intro v' w1 hown1 hg hat
    have hdone := Lib.hid (put_done hb hne hF hown1 hg hat)
    obtain ⟨A1, c1, rfl⟩ := ownsRow_slice hown1
    have hb1 : Blk w1 p 113 #[.slice A bs.length c] := (hg.block p hb.lt (fun e => hne e.symm)).trans hb
    have k0 := hb1.cell 0
    simp only [List.getElem?_toArray, List.getElem?_cons_zero] at k0
    have k1 := hb1.free 0
    clear hat hF hne hrest hx
    go_wp2
    go_end0
    exact ⟨rfl, hdone.out⟩

theorem wnumber_any (w : World) (p : Nat) (F : List Nat) (bs : List UInt8) (x : Int) (n : Nat) (hx : x = n) (hn : n < 4294967296) (hw : Wr w p F bs) (hlen : bs.length + 4 ≤ 1048576) :
    Calls Try.prog 60 #[.pointer (some ⟨p, 0, none⟩), .int .u32 x] w (Gives (fun w' => Wrote w w' p F (bs ++ be4 n))) := by
  have h0 : 0 ≤ x := by omega
  have h1 : x < 4294967296 := by omega
  have hs := Lib.hid (src_be4 w n x hx hn)
  clear hx
  go_enter Try.func60, Try.ntmps60
  go_wp2_with fail
  refine (put_any _ p F bs _ (be4 n) (hw.kept ((Only.refl [] w).alloc _) (by simp) (by simp)) hs.out hlen).mono ?_
  rintro e w1 ⟨rfl, hw1⟩
  go_wp2
  go_end0
  exact ⟨rfl, hw1.from ((Only.refl [] w).alloc _)⟩

theorem bytes_any (w : World) (p : Nat) (F : List Nat) (bs : List UInt8) (hw : Wr w p F bs) :
    Calls Try.prog 62 #[.pointer (some ⟨p, 0, none⟩)] w fun e w' => e = .returned (.string (strOf bs)) ∧ w = w' := by
  obtain ⟨v, hb, hown, hne, hF⟩ := hw
  obtain ⟨A, c, rfl⟩ := ownsRow_slice hown
  have hcell := hb.cell 0
  simp only [List.getElem?_toArray, List.getElem?_cons_zero] at hcell
  have hsrc := ownsRow_src hown
  go_enter Try.func62, Try.ntmps62
  go_wp2_with (refine wpList_to_string _ rfl 85 9 5 (.tmp 8) rfl Try.underlying85 Try.underlying5 Try.underlying9 A bs.length c bs rfl hsrc ?_)
  go_ret
  exact ⟨rfl, rfl⟩

theorem u32_join (i : Nat) (x y : Int) (hx0 : 0 ≤ x) (hx : x % 2 ^ i = 0) (hx1 : x < 4294967296) (hy0 : 0 ≤ y) (hy : y < 2 ^ i) (hy1 : y < 4294967296) : bits .or .u32 x y = x + y :=
  bits_join .u32 32 (by decide) (fun n h0 h1 => by rw [IntKind.wrap_u32]; omega) i x y hx0 hx (by omega) hy0 hy (by omega)

theorem number_bits (a b c d : UInt8) : bits .or .u32 (bits .or .u32 (bits .or .u32 ((a.toNat : Int) * 16777216) ((b.toNat : Int) * 65536)) ((c.toNat : Int) * 256)) (d.toNat : Int) = (decB a b c d : Nat) := by
  have := a.toNat_lt; have := b.toNat_lt; have := c.toNat_lt; have := d.toNat_lt
  rw [u32_join 24 ((a.toNat : Int) * 16777216) _ (by omega) (by omega) (by omega) (by omega) (by omega) (by omega),
    u32_join 16 ((a.toNat : Int) * 16777216 + (b.toNat : Int) * 65536) _ (by omega) (by omega) (by omega) (by omega) (by omega) (by omega),
    u32_join 8 ((a.toNat : Int) * 16777216 + (b.toNat : Int) * 65536 + (c.toNat : Int) * 256) _ (by omega) (by omega) (by omega) (by omega) (by omega) (by omega)]
  unfold decB
  omega

theorem number_cells (w : World) (g o n c : Nat) (a0 a1 a2 a3 : UInt8) (h0 : w.cell? ⟨g, o, none⟩ = some (.int .u8 (a0.toNat : Int))) (h1 : w.cell? ⟨g, o + 1, none⟩ = some (.int .u8 (a1.toNat : Int)))
    (h2 : w.cell? ⟨g, o + 2, none⟩ = some (.int .u8 (a2.toNat : Int))) (h3 : w.cell? ⟨g, o + 3, none⟩ = some (.int .u8 (a3.toNat : Int))) (hn : 4 ≤ n) :
    Calls Try.prog 68 #[.slice (some ⟨g, o, none⟩) n c] w fun e w' => e = .returned (.int .u32 (decB a0 a1 a2 a3 : Nat)) ∧ ∃ m, w' = w.drewN m := by
  have b0 : (a0.toNat : Int) < 256 := by have := a0.toNat_lt; omega
  have b1 : (a1.toNat : Int) < 256 := by have := a1.toNat_lt; omega
  have b2 : (a2.toNat : Int) < 256 := by have := a2.toNat_lt; omega
  have b3 : (a3.toNat : Int) < 256 := by have := a3.toNat_lt; omega
  have hn' : (4 : Int) ≤ n := by omega
  rw [← number_bits]
  go_enter Try.func68, Try.ntmps68
  go_wp2
  go_quiet (fail)
  go_wp2
  go_ret
  exact ⟨rfl, _, rfl⟩

theorem number_any (w : World) (g o n c : Nat) (l : List UInt8) (hb : BytesAt w g o l) (hl : 4 ≤ l.length) (hn : 4 ≤ n) :
    Calls Try.prog 68 #[.slice (some ⟨g, o, none⟩) n c] w fun e w' => e = .returned (.int .u32 (hd4 l : Nat)) ∧ ∃ m, w' = w.drewN m := by
  obtain ⟨a0, a1, a2, a3, r, rfl⟩ := four l hl
  have h0 := hb 0 (by simp)
  have h1 := hb 1 (by simp)
  have h2 := hb 2 (by simp)
  have h3 := hb 3 (by simp)
  exact number_cells w g o n c a0 a1 a2 a3 h0 h1 h2 h3 hn

/-- The reader behind the pointer to block p has bs left, from place o of block g on, and the error err. -/
structure RdAt (w : World) (p g o c : Nat) (bs : List UInt8) (err : Nat) : Prop where
  blk : Blk w p 117 #[.slice (some ⟨g, o, none⟩) bs.length c, .int .i64 (err : Int)]
  ne : g ≠ p
  le : bs.length ≤ c
  max : c ≤ maxLen
  bytes : BytesAt w g o bs
def Rd (w : World) (p g : Nat) (bs : List UInt8) (err : Nat) : Prop := ∃ o c, RdAt w p g o c bs err

theorem RdAt.kept {S : List Nat} {w w' : World} {p g o c : Nat} {bs : List UInt8} {err : Nat} (h : RdAt w p g o c bs err) (k : Only S w w') (hp : p ∉ S) (hg : g ∉ S) : RdAt w' p g o c bs err :=
  ⟨h.blk.kept k hp, h.ne, h.le, h.max, h.bytes.kept k hg⟩
theorem Rd.kept {S : List Nat} {w w' : World} {p g : Nat} {bs : List UInt8} {err : Nat} (h : Rd w p g bs err) (k : Only S w w') (hp : p ∉ S) (hg : g ∉ S) : Rd w' p g bs err := by
  obtain ⟨o, c, h⟩ := h
  exact ⟨o, c, h.kept k hp hg⟩
theorem RdAt.drewN {w : World} {p g o c : Nat} {bs : List UInt8} {err : Nat} (h : RdAt w p g o c bs err) (m : Nat) : RdAt (w.drewN m) p g o c bs err := ⟨h.blk, h.ne, h.le, h.max, h.bytes⟩
theorem Rd.drewN {w : World} {p g : Nat} {bs : List UInt8} {err : Nat} (h : Rd w p g bs err) (m : Nat) : Rd (w.drewN m) p g bs err := by
  obtain ⟨o, c, h⟩ := h
  exact ⟨o, c, h.drewN m⟩
theorem RdAt.c0 {w : World} {p g o c : Nat} {bs : List UInt8} {err : Nat} (h : RdAt w p g o c bs err) : w.cell? ⟨p, 0, none⟩ = some (.slice (some ⟨g, o, none⟩) bs.length c) := by simpa using h.blk.cell 0
theorem RdAt.c1 {w : World} {p g o c : Nat} {bs : List UInt8} {err : Nat} (h : RdAt w p g o c bs err) : w.cell? ⟨p, 1, none⟩ = some (.int .i64 (err : Int)) := by simpa using h.blk.cell 1

theorem err_any (w : World) (p g o c : Nat) (bs : List UInt8) (err : Nat) (h : RdAt w p g o c bs err) :
    Calls Try.prog 74 #[.pointer (some ⟨p, 0, none⟩)] w fun e w' => e = .returned (.int .i64 (err : Int)) ∧ w = w' := by
  have h1 := h.c1
  go_enter Try.func74, Try.ntmps74
  go_wp2
  go_ret
  exact ⟨rfl, rfl⟩
theorem fail_any (w : World) (p g : Nat) (bs : List UInt8) (err e' : Nat) (h : Rd w p g bs err) :
    Calls Try.prog 69 #[.pointer (some ⟨p, 0, none⟩), .int .i64 (e' : Int)] w fun e w' => e = .returned (.tuple #[]) ∧ Rd w' p g bs e' ∧ Only [p] w w' := by
  obtain ⟨o, c, h⟩ := h
  have h1 := h.c1
  have f1 := h.blk.free 1
  have hdone : Rd (w.setCell ⟨p, 1, none⟩ (.int .i64 (e' : Int))) p g bs e' ∧ Only [p] w (w.setCell ⟨p, 1, none⟩ (.int .i64 (e' : Int))) := by
    have k : Only [p] w (w.setCell ⟨p, 1, none⟩ (.int .i64 (e' : Int))) := (Only.refl [p] w).setCell (.inl (by simp)) _
    exact ⟨⟨o, c, by simpa using h.blk.set 1 (.int .i64 (e' : Int)), h.ne, h.le, h.max, h.bytes.kept k (by simpa using h.ne)⟩, k⟩
  have H := Lib.hid hdone
  clear hdone
  go_enter Try.func69, Try.ntmps69
  go_wp2
  go_end0
  exact ⟨rfl, H.out⟩
theorem consume_done {w : World} {p g o c n : Nat} {bs : List UInt8} {err : Nat} (h : RdAt w p g o c bs err) (o' : Nat) (ho : n < c → o' = o + n) :
    Rd (w.setCell ⟨p, 0, none⟩ (.slice (some ⟨g, o', none⟩) (bs.length - n) (c - n))) p g (bs.drop n) err ∧ Only [p] w (w.setCell ⟨p, 0, none⟩ (.slice (some ⟨g, o', none⟩) (bs.length - n) (c - n))) := by
  have k : Only [p] w (w.setCell ⟨p, 0, none⟩ (.slice (some ⟨g, o', none⟩) (bs.length - n) (c - n))) := (Only.refl [p] w).setCell (.inl (by simp)) _
  refine ⟨⟨o', c - n, by simpa using h.blk.set 0 (.slice (some ⟨g, o', none⟩) (bs.length - n) (c - n)), h.ne, by have := h.le; simp; omega, by have := h.max; omega, ?_⟩, k⟩
  by_cases hc : n < c
  · obtain rfl := ho hc
    exact (h.bytes.kept k (by simpa using h.ne)).drop n
  · have := h.le
    rw [List.drop_of_length_le (by omega)]
    exact BytesAt.nil _ _ _

theorem consume_any (w : World) (p g o c : Nat) (bs : List UInt8) (err : Nat) (A : Option Addr) (n c' : Nat) (h : RdAt w p g o c bs err) (hn : n ≤ bs.length) :
    Calls Try.prog 67 #[.pointer (some ⟨p, 0, none⟩), .slice A n c'] w fun e w' => e = .returned (.tuple #[]) ∧ Rd w' p g (bs.drop n) err ∧ Only [p] w w' := by
  have h0 := h.c0
  have f0 := h.blk.free 0
  have hm := h.max
  have hle := h.le
  unfold maxLen at hm
  have H1 := Lib.hid (consume_done (n := n) h (o + n) (fun _ => rfl))
  have H2 := Lib.hid (consume_done (n := n) (o' := o) h)
  clear h
  go_enter Try.func67, Try.ntmps67
  go_wp2
  · have hcn : c = n := by assumption
    have h2 := H2.out (by intro h; omega)
    rw [show c - n = 0 by omega] at h2
    go_end0
    exact ⟨rfl, h2⟩
  · go_end0
    exact ⟨rfl, H1.out⟩

attribute [local go_sem] Forth.normal Forth.exit Forth.ret Forth.panic

theorem next_err (w : World) (p g o c : Nat) (bs : List UInt8) (err : Nat) (n : Int) (h : RdAt w p g o c bs err) (he : err ≠ 0) :
    Calls Try.prog 66 #[.pointer (some ⟨p, 0, none⟩), .int .u64 n] w fun e w' => e = .returned (.tuple #[.slice none 0 0, .int .i64 (err : Int)]) ∧ w = w' := by
  have he' : ((err : Int) != 0) = true := by simp; omega
  go_enter Try.func66, Try.ntmps66
  go_wp2_with fail
  refine wp_scope_forth 0 rfl ?_
  go_wp2_with fail
  refine (err_any _ p g o c bs err h).mono ?_
  rintro e w1 ⟨rfl, rfl⟩
  go_wp2_with fail
  go_step3
  refine ⟨rfl, ?_⟩
  go_wp2
  rw [Exit.noGoto_ret]
  go_ret2
  exact ⟨rfl, rfl⟩

theorem next_short (w : World) (p g o c : Nat) (bs : List UInt8) (n : Int) (h : RdAt w p g o c bs 0) (hn : (bs.length : Int) < n) :
    Calls Try.prog 66 #[.pointer (some ⟨p, 0, none⟩), .int .u64 n] w fun e w' => e = .returned (.tuple #[.slice none 0 0, .int .i64 2]) ∧ w = w' := by
  have h0 := h.c0
  have hm := h.max
  have hle := h.le
  have hl : bs.length ≤ 9223372036854775807 := by unfold maxLen at hm; omega
  clear hm hle
  go_enter Try.func66, Try.ntmps66
  go_wp2_with fail
  refine wp_scope_forth 0 rfl ?_
  go_wp2_with fail
  refine (err_any _ p g o c bs 0 h).mono ?_
  rintro e w1 ⟨rfl, rfl⟩
  go_wp2_with fail
  go_step3
  refine ⟨rfl, ?_⟩
  go_wp2
  rw [Exit.noGoto_ret]
  go_ret2
  exact ⟨rfl, rfl⟩

theorem next_ok (w : World) (p g o c : Nat) (bs : List UInt8) (x : Int) (n : Nat) (hx : x = n) (h : RdAt w p g o c bs 0) (hn : n ≤ bs.length) :
    Calls Try.prog 66 #[.pointer (some ⟨p, 0, none⟩), .int .u64 x] w fun e w' => e = .returned (.tuple #[.slice (some ⟨g, o, none⟩) n c, .int .i64 0]) ∧ w = w' := by
  have h0 := h.c0
  have hm := h.max
  have hle := h.le
  have hl : bs.length ≤ 9223372036854775807 := by unfold maxLen at hm; omega
  subst hx
  clear hm
  go_enter Try.func66, Try.ntmps66
  go_wp2_with fail
  refine wp_scope_forth 0 rfl ?_
  go_wp2_with fail
  refine (err_any _ p g o c bs 0 h).mono ?_
  rintro e w1 ⟨rfl, rfl⟩
  go_wp2_with fail
  rw [Forth.ret]
  go_ret2
  exact ⟨rfl, rfl⟩

/-- The error of a read that lacks bytes. -/
def lackE (err : Nat) : Nat := if err = 0 then 2 else err
theorem lackE_ne (err : Nat) : lackE err ≠ 0 := by unfold lackE; split <;> omega

/-- 'next' where the reader has an error, or bytes lack. -/
theorem next_fail (w : World) (p g o c : Nat) (bs : List UInt8) (err : Nat) (n : Int) (h : RdAt w p g o c bs err) (hn : err ≠ 0 ∨ (bs.length : Int) < n) :
    Calls Try.prog 66 #[.pointer (some ⟨p, 0, none⟩), .int .u64 n] w fun e w' => e = .returned (.tuple #[.slice none 0 0, .int .i64 (lackE err : Nat)]) ∧ w = w' := by
  by_cases he : err = 0
  · subst he
    exact next_short w p g o c bs n h (hn.resolve_left (by simp))
  · have := next_err w p g o c bs err n h he
    unfold lackE
    rw [if_neg he]
    exact this

/-- What a read leaves, behind a name: its value, what is left, and that the reader alone has turned. -/
def Took (w : World) (p g : Nat) (v : Value) (bs : List UInt8) (err : Nat) (e : Ending) (w' : World) : Prop := e = .returned v ∧ Rd w' p g bs err ∧ Only [p] w w'

theorem number_fail (w : World) (p g o c : Nat) (bs : List UInt8) (err : Nat) (h : RdAt w p g o c bs err) (hn : err ≠ 0 ∨ (bs.length : Int) < 4) :
    Calls Try.prog 57 #[.pointer (some ⟨p, 0, none⟩)] w (Took w p g (.int .u32 0) bs (lackE err)) := by
  have hne : (((lackE err : Nat) : Int) != 0) = true := by have := lackE_ne err; simp; omega
  go_enter Try.func57, Try.ntmps57
  go_wp2_with fail
  refine wp_scope_forth 0 rfl ?_
  go_wp2_with fail
  refine (next_fail _ p g o c bs err _ h hn).mono ?_
  rintro e w1 ⟨rfl, rfl⟩
  go_wp2_with fail
  go_step3
  refine ⟨rfl, ?_⟩
  go_wp2_with fail
  refine (fail_any _ p g bs err _ ⟨o, c, h⟩).mono ?_
  rintro e w1 ⟨rfl, h1, k1⟩
  go_wp2
  rw [Exit.noGoto_ret]
  go_ret
  exact ⟨rfl, h1, k1⟩

theorem number_ok (w : World) (p g o c : Nat) (bs : List UInt8) (h : RdAt w p g o c bs 0) (hn : 4 ≤ bs.length) :
    Calls Try.prog 57 #[.pointer (some ⟨p, 0, none⟩)] w (Took w p g (.int .u32 (hd4 bs : Nat)) (bs.drop 4) 0) := by
  go_enter Try.func57, Try.ntmps57
  go_wp2_with fail
  refine wp_scope_forth 0 rfl ?_
  go_wp2_with fail
  refine (next_ok _ p g o c bs _ 4 rfl h hn).mono ?_
  rintro e w1 ⟨rfl, rfl⟩
  go_wp2_with fail
  refine (consume_any _ p g o c bs 0 _ 4 c h hn).mono ?_
  rintro e w1 ⟨rfl, h1, k1⟩
  have hb := h.bytes.kept k1 (by simpa using h.ne)
  go_wp2_with fail
  refine (number_any _ g o 4 c bs hb hn (Nat.le_refl _)).mono ?_
  rintro e w2 ⟨rfl, m, rfl⟩
  go_wp2
  rw [Forth.ret]
  go_ret
  exact ⟨rfl, h1.drewN m, k1.drewN m⟩

theorem rnum_any (w : World) (p g : Nat) (bs : List UInt8) (err : Nat) (h : Rd w p g bs err) :
    Calls Try.prog 57 #[.pointer (some ⟨p, 0, none⟩)] w (Took w p g (.int .u32 ((rNumber bs err).1 : Int)) (rNumber bs err).2.1 (rNumber bs err).2.2) := by
  obtain ⟨o, c, h⟩ := h
  unfold rNumber
  by_cases he : err ≠ 0
  · rw [if_pos he]
    have := number_fail w p g o c bs err h (.inl he)
    rwa [show lackE err = err by unfold lackE; rw [if_neg he]] at this
  · rw [if_neg he]
    have he0 : err = 0 := by omega
    subst he0
    by_cases hl : bs.length < 4
    · rw [if_pos hl]
      exact number_fail w p g o c bs 0 h (.inr (by omega))
    · rw [if_neg hl]
      exact number_ok w p g o c bs h (by omega)

def NewRd2 (w : World) (bs : List UInt8) (e : Ending) (w' : World) : Prop :=
  ∃ p g, e = .returned (.pointer (some ⟨p, 0, none⟩)) ∧ Rd w' p g bs 0 ∧ w.heap.size ≤ p ∧ w.heap.size ≤ g ∧ Only [] w w' ∧ g < w'.heap.size

theorem newReader_two (w : World) (s : ByteArray) (hs : s.size ≤ 140737488351232) :
    Calls Try.prog 56 #[.string s] w (NewRd2 w s.data.toList) := by
  have hl : s.data.toList.length = s.size := by simp
  have HL := Lib.hid hl
  clear hl
  go_enter Try.func56, Try.ntmps56
  go_wp2_with (refine wpList_to_bytes _ rfl 9 85 5 (.tmp 3) rfl Try.underlying9 Try.underlying85 Try.underlying5 s rfl (by unfold maxLen; omega) ?_; intro w2 c k2 hc1 hc2 hb2 hlt2)
  go_ret
  have hlen := HL.out
  have hnew := Blk.new w2 117 #[.slice (some ⟨w.heap.size, 0, none⟩) s.size c, .int .i64 0]
  refine ⟨w2.heap.size, w.heap.size, rfl, ⟨0, c, ⟨by rw [hlen]; exact hnew, by omega, by rw [hlen]; exact hc1, hc2, hb2.kept ((Only.refl [] w2).alloc _) (by simp)⟩⟩, k2.size, Nat.le_refl _, k2.alloc _, by simp; omega⟩

end Go.Proofs.Ytihoebmfanelkaa
