/- DserverAlone: the array of the senders' numbers; the walk. -/
import Derived.Test.YtmelaiefbpdifaaGreatDoorFAlo13
import Derived.Test.YtmelaiefbpdifaaGreatDoorFOnce13
namespace Go.Proofs.YtmelaiefbpdifaaGreatDoor.Srv
open Go.RowKit Go.Maps
open Pgs (Pg pgE)
def cntL (f g : Nat → Nat) : List Value := (List.range 512).map fun k => .int .u32 ((if k < 256 then f k else g (k - 256) : Nat) : Int)
theorem cntL_get (f g : Nat → Nat) {k : Nat} (hk : k < 512) : (cntL f g)[k]? = some (.int .u32 ((if k < 256 then f k else g (k - 256) : Nat) : Int)) := by
 unfold cntL
 rw [List.getElem?_map, List.getElem?_range hk]
 rfl
theorem cntL_len (f g : Nat → Nat) : (cntL f g).length = 512 := by unfold cntL; rw [List.length_map, List.length_range]
theorem cntL_f (f g : Nat → Nat) {k n : Nat} (hk : k < 256) : (cntL f g).toArray.setIfInBounds k (.int .u32 (n : Int)) = (cntL (fun j => if j = k then n else f j) g).toArray := by
 rw [List.setIfInBounds_toArray]
 refine congrArg List.toArray ?_
 apply List.ext_getElem?
 intro i
 rw [List.getElem?_set, cntL_len]
 by_cases hi : i < 512
 ·rw [cntL_get _ _ hi, cntL_get _ _ hi]
  by_cases h : k = i
  ·subst h
   rw [if_pos rfl, if_pos hi, if_pos hk, if_pos rfl]
  ·rw [if_neg h]
   by_cases h2 : i < 256
   ·rw [if_pos h2, if_pos h2, if_neg (fun e => h e.symm)]
   ·rw [if_neg h2, if_neg h2]
 ·rw [if_neg (by omega), List.getElem?_eq_none (by rw [cntL_len]; omega), List.getElem?_eq_none (by rw [cntL_len]; omega)]
theorem cntL_g (f g : Nat → Nat) {k n : Nat} (hk : k < 256) : (cntL f g).toArray.setIfInBounds (256 + k) (.int .u32 (n : Int)) = (cntL f (fun j => if j = k then n else g j)).toArray := by
 rw [List.setIfInBounds_toArray]
 refine congrArg List.toArray ?_
 apply List.ext_getElem?
 intro i
 rw [List.getElem?_set, cntL_len]
 by_cases hi : i < 512
 ·rw [cntL_get _ _ hi, cntL_get _ _ hi]
  by_cases h : 256 + k = i
  ·subst h
   rw [if_pos rfl, if_pos hi, if_neg (by omega), if_pos (by omega)]
  ·rw [if_neg h]
   by_cases h2 : i < 256
   ·rw [if_pos h2, if_pos h2]
   ·rw [if_neg h2, if_neg h2, if_neg (by omega)]
 ·rw [if_neg (by omega), List.getElem?_eq_none (by rw [cntL_len]; omega), List.getElem?_eq_none (by rw [cntL_len]; omega)]
theorem zero_cnt : (Tryz.prog.info? 73).map (fun i => (i.zero, i.size)) = some (some (.agg (cntL (fun _ => 0) fun _ => 0).toArray), 512) := by kernel_rfl
end Go.Proofs.YtmelaiefbpdifaaGreatDoor.Srv
