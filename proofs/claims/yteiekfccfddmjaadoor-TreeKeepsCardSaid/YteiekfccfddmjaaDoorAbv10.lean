/- The document's Above. -/
import Derived.Test.YteiekfccfddmjaaDoorWith10
namespace Go.Proofs.YteiekfccfddmjaaDoor
open Go.RowKit

def AbvAns (w w' : World) (e : Ending) (l : List Nd) (S : Nd × List UInt8 × Int) : Prop := ∃ k : Nat, e = .returned (.tuple #[.int .i64 k, .int .i64 S.2.2]) ∧ (S.2.2 = 0 → l[k]? = some S.1) ∧ Only [] w w'
set_option maxRecDepth 100000 in
set_option maxHeartbeats 2000000 in
theorem above_any (w : World) (A B : Option Addr) (c d : Nat) (l : List Nd) (names : List (List UInt8)) (hb : Els ndE 5 w A l) (hl : l.length ≤ 1048576) (hT : Tree l) (hs : Els strE 1 w B names) (hn : names.length ≤ 1048576) (hd : names.length ≤ d) :
    Calls Tryd.prog 54 #[.slice A l.length c, .slice B names.length d] w fun e w' => AbvAns w w' e l (spotR l names) := by
  rcases List.eq_nil_or_concat names with rfl | ⟨q, s, rfl⟩
  · rw [spotR_nil]
    go_enter Tryd.func54, Tryd.ntmps54
    go_wp2
    go_ret2
    exact ⟨0, rfl, (fun h => absurd h (by decide)), Only.refl _ _⟩
  rw [List.concat_eq_append] at hs hn hd ⊢
  rw [spotR_last]
  have hhd := hs.head (c := d) (m := q.length)
  rw [List.take_left] at hhd
  have hrun := run_head (P := Tryd.prog) 33 9 Tryd.underlying33 size_str B (q ++ [s]).length d q.length (q.length : Int) rfl (by simp at hd; omega)
  have hlen0 := List.length_pos_iff.2 (show l ≠ [] from fun h => by have := hT.head; rw [h] at this; cases this)
  have hW := fun W (k : Only [] w W) => rwalk_any W A (tailA B d 0 1) c d l q (hb.kept k (by simp)) hl hlen0 (hhd.kept k (fun a _ => by simp)) (by simp at hn; omega)
  have hlen : ((q ++ [s]).length : Int) - 1 = (q.length : Int) := by simp
  have hne : (((q ++ [s]).length : Int) == 0) = false := by rw [beq_eq_false_iff_ne]; simp; omega
  obtain ⟨nl, hnl⟩ : ∃ nl, nl = (q ++ [s]).length := ⟨_, rfl⟩
  rw [← hnl] at hrun hlen hne ⊢
  have hnb : nl ≤ 1048576 := by omega
  have hww : IntKind.i64.wrap (nl - 1) = (nl : Int) - 1 := by rw [hlen]; exact wrap_nat q.length (by omega)
  generalize tailA B d 0 1 = HB at *
  obtain ⟨s1, s2, s3, s4⟩ := walk_same hT q 0 rootN hT.get0
  generalize walkI l 0 q = R at *
  generalize walkR l rootN q = Y at *
  obtain ⟨k, er⟩ := R
  obtain ⟨y, ey⟩ := Y
  simp only at s1 s2 s3 s4 hW ⊢
  subst s1
  have hT' := Lib.hid hT
  clear hT hs hhd
  obtain ⟨ql, hql⟩ : ∃ ql, ql = q.length := ⟨_, rfl⟩
  rw [← hql] at hrun hlen hW
  replace hql := Lib.hid hql
  replace hnl := Lib.hid hnl
  replace hW := Lib.hid hW
  by_cases her : er = 0
  rotate_left
  · rw [if_neg her]
    have heb : (er != 0) = true := by simpa using her
    clear s3 s4
    go_enter Tryd.func54, Tryd.ntmps54
    go_wp2_with fail
    refine (hW.out _ (Only.refl _ _)).mono ?_; rintro e w1 ⟨rfl, k1⟩
    go_wp2
    go_ret2
    exact ⟨0, rfl, fun h => absurd h her, k1⟩
  subst her
  rw [if_pos rfl]
  have hx := s3 rfl
  have hxe : l[k] = y := (List.getElem?_eq_some_iff.1 hx).2
  obtain ⟨g, o, rfl, _, hat⟩ := hb.get s2
  have hcl := fun W (kk : Only [] w W) => (nds_at (hat.kept kk (by simp)) s2).2.2.2.1
  rw [hxe] at hcl
  have hkI : (k : Int) < (l.length : Int) := by omega
  replace hcl := Lib.hid hcl
  replace hx := Lib.hid hx
  replace hxe := Lib.hid hxe
  clear s3 s4 hat
  cases hd3 : y.dir with
  | false =>
    rw [hd3] at hcl
    replace hd3 := Lib.hid hd3
    rw [if_neg (by simp)]
    go_enter Tryd.func54, Tryd.ntmps54
    go_wp2_with fail
    refine (hW.out _ (Only.refl _ _)).mono ?_; rintro e w1 ⟨rfl, k1⟩
    have c3 := hcl.out _ k1
    go_wp2
    go_ret2
    exact ⟨0, rfl, (fun h => absurd h (by decide)), k1⟩
  | true =>
    rw [hd3] at hcl
    replace hd3 := Lib.hid hd3
    rw [if_pos rfl]
    go_enter Tryd.func54, Tryd.ntmps54
    go_wp2_with fail
    refine (hW.out _ (Only.refl _ _)).mono ?_; rintro e w1 ⟨rfl, k1⟩
    have c3 := hcl.out _ k1
    go_wp2
    go_ret2
    exact ⟨k, rfl, fun _ => hx.out, k1⟩
end Go.Proofs.YteiekfccfddmjaaDoor
