/- The document's device in memory, and the walks of its functions. -/
import Derived.Test.YtihoebmfanelkaaRun
namespace Go.Proofs.Ytihoebmfanelkaa
open Go.RowKit

theorem info_text : (Try.prog.info? 9).map (fun i => (i.zero, i.size, i.bytes)) = some (some (.string ⟨#[]⟩), 1, 16) := by kernel_rfl

def refLate (l : List (Nat × List UInt8)) : List Value := (l.map fun x => [Value.int .i64 (x.1 : Int), .string (strOf x.2)]).flatten
theorem refLate_snoc (l : List (Nat × List UInt8)) (k : Nat) (b : List UInt8) : refLate (l ++ [(k, b)]) = refLate l ++ [.int .i64 (k : Int), .string (strOf b)] := by simp [refLate]
theorem refLate_at (l : List (Nat × List UInt8)) (i : Nat) (x : Nat × List UInt8) (h : l[i]? = some x) : (refLate l)[i * 2]? = some (.int .i64 (x.1 : Int)) ∧ (refLate l)[i * 2 + 1]? = some (.string (strOf x.2)) := by
  have hl : ∀ b ∈ l.map fun x => [Value.int .i64 (x.1 : Int), .string (strOf x.2)], b.length = 2 := by
    intro b hb
    simp only [List.mem_map] at hb
    obtain ⟨y, _, rfl⟩ := hb
    rfl
  have hg : (l.map fun x => [Value.int .i64 (x.1 : Int), .string (strOf x.2)])[i]? = some [Value.int .i64 (x.1 : Int), .string (strOf x.2)] := by simp [h]
  exact ⟨flat_at 2 _ i 0 _ _ hl hg rfl, flat_at 2 _ i 1 _ _ hl hg rfl⟩

/-- The document's device behind the pointer to block p has the state s; it lies in blocks of G. -/
def Ref (w : World) (p : Nat) (G : List Nat) (s : St) : Prop :=
  ∃ vf vl, Blk w p 44 #[vf, vl, .int .i64 s.fuse, .bool s.dead] ∧ w.ownsRow 0 9 1 vf s.firm.length (strCells s.firm) ∧ w.ownsRow 0 105 2 vl s.late.length (refLate s.late) ∧
    (vf.ownBlock ≠ some p ∧ vl.ownBlock ≠ some p ∧ ∀ g, vf.ownBlock = some g → vl.ownBlock ≠ some g) ∧ (p ∈ G ∧ (∀ g, vf.ownBlock = some g → g ∈ G) ∧ ∀ g, vl.ownBlock = some g → g ∈ G) ∧ Fine s
def RefDid (w w' : World) (p : Nat) (G : List Nat) (s : St) : Prop := ∃ G', Ref w' p G' s ∧ Only G w w' ∧ ∀ i ∈ G', (i ∈ G ∨ w.heap.size ≤ i) ∧ i < w'.heap.size
/-- Where no block is new. -/
def RefSame (w w' : World) (p : Nat) (G : List Nat) (s : St) : Prop := Ref w' p G s ∧ Only G w w'

section
variable {w w' : World} {p : Nat} {G S : List Nat} {s : St}
theorem Ref.kept (h : Ref w p G s) (k : Only S w w') (hG : ∀ i ∈ G, i ∉ S) : Ref w' p G s := by
  obtain ⟨vf, vl, h1, h2, h3, h4, ⟨g1, g2, g3⟩, h6⟩ := h
  exact ⟨vf, vl, h1.kept k (hG _ g1), ownsRow_kept' h2 k (fun g hg => hG g (g2 g hg)), ownsRow_kept' h3 k (fun g hg => hG g (g3 g hg)), h4, ⟨g1, g2, g3⟩, h6⟩
theorem Ref.keepQ (h : Ref w p G s) (k : KeepQ G w w') : Ref w' p G s := by
  obtain ⟨vf, vl, h1, h2, h3, h4, ⟨g1, g2, g3⟩, h6⟩ := h
  have own : ∀ {e z v n xs}, w.ownsRow 0 e z v n xs → (∀ g, v.ownBlock = some g → g ∈ G) → w'.ownsRow 0 e z v n xs := by
    intro e z v n xs h hv
    refine ⟨h.1, ?_⟩
    rcases h.2 with h0 | ⟨g, cap, cur, rfl, hb, hg, r⟩
    · exact .inl h0
    · exact .inr ⟨g, cap, cur, rfl, hb, by rw [k g (hv g rfl)]; exact hg, r⟩
  exact ⟨vf, vl, k.blk h1 g1, own h2 g2, own h3 g3, h4, ⟨g1, g2, g3⟩, h6⟩
theorem Ref.mem (h : Ref w p G s) : p ∈ G := by
  obtain ⟨vf, vl, _, _, _, _, ⟨g1, _⟩, _⟩ := h
  exact g1
theorem Ref.fine (h : Ref w p G s) : Fine s := by
  obtain ⟨vf, vl, _, _, _, _, _, h6⟩ := h
  exact h6
theorem Ref.trim (h : Ref w p G s) : ∃ G', Ref w p G' s ∧ (∀ i ∈ G', i ∈ G) ∧ ∀ i ∈ G', i < w.heap.size := by
  obtain ⟨vf, vl, h1, h2, h3, h4, ⟨g1, g2, g3⟩, h6⟩ := h
  refine ⟨p :: (vf.ownBlock.toList ++ vl.ownBlock.toList), ⟨vf, vl, h1, h2, h3, h4, ⟨by simp, fun g hg => by simp [hg], fun g hg => by simp [hg]⟩, h6⟩, fun i hi => ?_, fun i hi => ?_⟩
  · simp at hi
    rcases hi with rfl | hi | hi
    · exact g1
    · exact g2 i hi
    · exact g3 i hi
  · simp at hi
    rcases hi with rfl | hi | hi
    · exact h1.lt
    · exact (h2.lt i hi).2
    · exact (h3.lt i hi).2
theorem RefSame.did (h : RefSame w w' p G s) : RefDid w w' p G s := by
  obtain ⟨G', k1, k2, k3⟩ := h.1.trim
  exact ⟨G', k1, h.2, fun i hi => ⟨.inl (k2 i hi), k3 i hi⟩⟩
theorem Ref.setFuse (h : Ref w p G s) (n : Int) (h0 : -9223372036854775808 ≤ n) (h1 : n ≤ 9223372036854775807) : RefSame w (w.setCell ⟨p, 2, none⟩ (.int .i64 n)) p G { s with fuse := n } := by
  have hm := h.mem
  obtain ⟨vf, vl, b, o1, o2, ⟨n1, n2, n3⟩, hG, fine⟩ := h
  have k : Only [p] w (w.setCell ⟨p, 2, none⟩ (.int .i64 n)) := Only.set w [p] (by simp) _
  exact ⟨⟨vf, vl, by simpa using b.set 2 (.int .i64 n), ownsRow_kept' o1 k (fun g hg => by simp; rintro rfl; exact n1 hg), ownsRow_kept' o2 k (fun g hg => by simp; rintro rfl; exact n2 hg), ⟨n1, n2, n3⟩, hG, ⟨fine.pos, fine.few, fine.firm, fine.late, h0, h1⟩⟩, Only.set w G hm _⟩
theorem Ref.setDead (h : Ref w p G s) (d : Bool) : RefSame w (w.setCell ⟨p, 3, none⟩ (.bool d)) p G { s with dead := d } := by
  have hm := h.mem
  obtain ⟨vf, vl, b, o1, o2, ⟨n1, n2, n3⟩, hG, fine⟩ := h
  have k : Only [p] w (w.setCell ⟨p, 3, none⟩ (.bool d)) := Only.set w [p] (by simp) _
  exact ⟨⟨vf, vl, by simpa using b.set 3 (.bool d), ownsRow_kept' o1 k (fun g hg => by simp; rintro rfl; exact n1 hg), ownsRow_kept' o2 k (fun g hg => by simp; rintro rfl; exact n2 hg), ⟨n1, n2, n3⟩, hG, ⟨fine.pos, fine.few, fine.firm, fine.late, fine.lo, fine.hi⟩⟩, Only.set w G hm _⟩
end

theorem noughts_any (w : World) : Calls Try.prog 27 #[] w fun e w' => e = .returned (.string (strOf (rep 256 0))) ∧ Only [] w w' := by
  have hsrc : SrcV (w.alloc (.cells (List.replicate 256 (Value.int .u8 0)).toArray 5)) (.slice (some ⟨w.heap.size, 0, none⟩) 256 256) 256 (byteVs (rep 256 0)) := by
    refine ⟨_, _, rfl, by rw [byteVs_length, rep_length], .inr ⟨_, rfl, fun j u hu => ?_⟩⟩
    have e : byteVs (rep 256 0) = List.replicate 256 (Value.int .u8 0) := List.map_replicate
    rw [e] at hu
    rw [addr_add, Nat.zero_add, (Blk.new w _ _).cell j]
    simpa only [List.getElem?_toArray] using hu
  have hc := run_to_string (P := Try.prog) _ 85 9 5 Try.underlying85 Try.underlying5 Try.underlying9 _ _ _ _ hsrc
  have hk : Only [] w (w.alloc (.cells (List.replicate 256 (Value.int .u8 0)).toArray 5)) := (Only.refl [] w).alloc _
  clear hsrc
  obtain ⟨C, hC⟩ : ∃ C, C = List.replicate 256 (Value.int .u8 0) := ⟨_, rfl⟩
  rw [← hC] at hc hk
  replace hC := Lib.hid hC
  go_enter Try.func27, Try.ntmps27
  go_wp2_with (refine wpList_make_cells _ rfl (.const (.int .i64 256)) (.const (.int .i64 256)) 85 rfl 5 (.int .u8 0) 1 Try.underlying85 (by kernel_rfl) rfl .i64 .i64 256 256 256 rfl rfl rfl rfl (by decide) (by decide) ?_; rw [← hC.out])
  go_ret
  exact ⟨rfl, hk⟩

theorem burn_any (w : World) (p : Nat) (G : List Nat) (s : St) (hd : Ref w p G s) :
    Calls Try.prog 54 #[.pointer (some ⟨p, 0, none⟩)] w fun e w' => e = .returned (.bool (burns s)) ∧ RefSame w w' p G (burnt s) := by
  have fine := hd.fine
  have flo := fine.lo
  have fhi := fine.hi
  obtain ⟨firm, late, fuse, dead⟩ := s
  obtain ⟨vf, vl, hb, _⟩ := id hd
  have c3 := hb.cell 2
  have c4 := hb.cell 3
  have f3 := hb.free 2
  have f4 := hb.free 3
  simp only [List.getElem?_toArray, List.getElem?_cons_zero, List.getElem?_cons_succ] at c3 c4
  simp only at flo fhi
  have hdone : ∀ n, -9223372036854775808 ≤ n → n ≤ 9223372036854775807 → RefSame w (w.setCell ⟨p, 2, none⟩ (.int .i64 n)) p G ⟨firm, late, n, dead⟩ := fun n h0 h1 => hd.setFuse n h0 h1
  have hdead : RefSame w (w.setCell ⟨p, 3, none⟩ (.bool true)) p G ⟨firm, late, fuse, true⟩ := hd.setDead true
  have hrest : RefSame w w p G ⟨firm, late, fuse, dead⟩ := ⟨hd, Only.refl G w⟩
  replace hdone := Lib.hid hdone
  replace hdead := Lib.hid hdead
  replace hrest := Lib.hid hrest
  clear hb hd fine
  cases hdd : dead with
  | true =>
    rw [hdd] at c4
    go_enter Try.func54, Try.ntmps54
    go_wp2
    go_ret
    refine ⟨by simp [burns], ?_⟩
    simpa [burnt, burns] using hdead.out
  | false =>
    rw [hdd] at c4 hdone hrest
    by_cases h0 : fuse = 0
    · subst h0
      go_enter Try.func54, Try.ntmps54
      go_wp2
      go_ret
      refine ⟨by simp [burns], ?_⟩
      simpa [burnt, burns] using hdead.out
    · by_cases h1 : 0 < fuse
      · have hw : wrap64 (fuse - 1) = fuse - 1 := by simp only [wrap64]; omega
        go_enter Try.func54, Try.ntmps54
        go_wp2
        go_ret
        refine ⟨by simp [burns, h0], ?_⟩
        simpa [burnt, burns, h0, h1] using hdone.out (fuse - 1) (by omega) (by omega)
      · go_enter Try.func54, Try.ntmps54
        go_wp2
        go_ret
        refine ⟨by simp [burns, h0], ?_⟩
        have e1 : (if 0 < fuse then fuse - 1 else fuse) = fuse := if_neg (by omega)
        simpa [burnt, burns, h0, e1] using hrest.out

theorem light_any (w : World) (p : Nat) (G : List Nat) (s : St) (n : Int) (h0 : -9223372036854775808 ≤ n) (h1 : n ≤ 9223372036854775807) (hd : Ref w p G s) :
    Calls Try.prog 30 #[.pointer (some ⟨p, 0, none⟩), .int .i64 n] w fun e w' => e = .returned (.tuple #[]) ∧ RefSame w w' p G (lit s (if n < 0 then -1 else n)) := by
  obtain ⟨vf, vl, hb, _⟩ := id hd
  have c3 := hb.cell 2
  have f3 := hb.free 2
  simp only [List.getElem?_toArray, List.getElem?_cons_zero, List.getElem?_cons_succ] at c3
  have hone := hd.setFuse n h0 h1
  have htwo := hone.1.setFuse (-1) (by decide) (by decide)
  have hall : RefSame w ((w.setCell ⟨p, 2, none⟩ (.int .i64 n)).setCell ⟨p, 2, none⟩ (.int .i64 (-1))) p G (lit s (-1)) := ⟨htwo.1, hone.2.trans htwo.2⟩
  have hone' : RefSame w (w.setCell ⟨p, 2, none⟩ (.int .i64 n)) p G (lit s n) := hone
  replace hone' := Lib.hid hone'
  replace hall := Lib.hid hall
  clear hb hd hone htwo
  by_cases hn : n < 0
  · rw [if_pos hn]
    go_enter Try.func30, Try.ntmps30
    go_wp2
    go_end0
    exact ⟨rfl, hall.out⟩
  · rw [if_neg hn]
    go_enter Try.func30, Try.ntmps30
    go_wp2
    go_end0
    exact ⟨rfl, hone'.out⟩

end Go.Proofs.Ytihoebmfanelkaa
