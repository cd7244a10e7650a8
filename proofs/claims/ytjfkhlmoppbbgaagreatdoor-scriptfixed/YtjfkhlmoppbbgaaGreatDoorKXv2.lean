/- ScriptFixed, pure: the document's examples. -/
import Derived.Test.YtjfkhlmoppbbgaaGreatDoorKXd2
namespace Go.Proofs.YtjfkhlmoppbbgaaGreatDoor
open Go.RowKit
open scanP scrP tpl ytb

def fixT : List (List UInt8) := [[48, 112], [49, 44, 112], [107], [49], [112, 32, 112], [115, 47, 97], [115, 47, 97, 47, 98, 47, 103, 103], [115, 47, 97, 47, 92, 49, 47], [47, 92, 40, 47, 112], [121, 47, 97, 98, 47, 99, 47], [97, 32, 120], [33, 33, 112], [58], [119], [49, 35], [115, 47, 97, 47, 98, 47, 48], [115, 47, 97, 47, 98, 47, 53, 49, 51], [121, 47, 97, 92, 113, 47, 98, 99, 47], [92], [98, 49, 50, 51, 52, 53, 54, 55, 56, 57, 48, 49, 50, 51, 52, 53, 54, 55, 56, 57, 48, 49, 50, 51, 52, 53, 54, 55, 56, 57, 48, 49, 50, 120], [36, 44, 36, 44, 112], [112, 59, 49, 50, 51, 52, 53, 54, 55, 56, 57, 48, 112], [115], [115, 47, 97, 47, 92], [97, 92, 10], [115, 47, 97, 47, 98, 47, 50, 103, 51]]
def fixW : List (Nat × Nat) := [(17, 0), (17, 2), (18, 0), (18, 1), (19, 2), (6, 0), (20, 7), (11, 0), (10, 0), (21, 0), (19, 0), (18, 1), (22, 0), (3, 0), (18, 1), (20, 6), (20, 6), (12, 0), (17, 0), (22, 0), (18, 3), (17, 2), (19, 0), (6, 0), (6, 0), (20, 8)]
theorem g_par : gM [92, 40] = (10, 0) := by
  unfold gM br.ofM
  rw [show br.parseT (bst [92, 40]) = .error (10, 0) by kernel_rfl]
  rfl
theorem g_fix : ∃ g : Gr, gM = fun t => if t = [92, 40] then (10, 0) else if t = [97] then (0, 0) else g t := ⟨gM, funext fun t => by
  split
  · rename_i h; rw [h]; exact g_par
  · split
    · rename_i h; rw [h]; exact g_one 97 97 tok_a
    · rfl⟩
set_option maxRecDepth 100000 in
theorem fix_all : fixT.map (scrR gM) = fixW.map (fun x => ([], false, x.1, x.2)) := by
  obtain ⟨g, h⟩ := g_fix
  rw [h]
  kernel_rfl
theorem fix_n : scrR gM [35, 110] = ([], true, 0, 0) := rfl
theorem fix_nn : scrR gM [35, 110, 110, 10] = ([], false, 0, 0) := rfl
theorem fix_big : scrR gM (List.replicate 4097 59) = ([], false, 13, 0) := by
  unfold scrR
  rw [if_pos (by rw [List.length_replicate]; omega)]
theorem Sep.semis : ∀ n, Sep (List.replicate n 59)
  | 0 => Sep.nil
  | n + 1 => (Sep.one (b := 59) rfl).app (Sep.semis n)
theorem fix_p : ∃ c, scrR gM (List.replicate 4095 59 ++ [112]) = ([c], false, 0, 0) := by
  have h1 : alF gM [112] 0 [] = .ok [{ co0 with pl := 0, nm := 112 }] := rfl
  have h2 := sep_all gM (Sep.semis 4095) [112]
  rw [h1] at h2
  rw [scr_alF gM _ (by rw [List.length_append, List.length_replicate]; simp), h2]
  refine ⟨mv 4095 { co0 with pl := 0, nm := 112 }, ?_⟩
  have h3 : quiB (List.replicate 4095 59 ++ [112]) = false := by
    unfold quiB
    rw [decide_eq_false_iff_not]
    intro h
    have e : (List.replicate 4095 59 ++ [112] : List UInt8) = 59 :: (List.replicate 4094 59 ++ [112]) := by rw [show (4095 : Nat) = 4094 + 1 from rfl, List.replicate_succ, List.cons_append]
    rw [e, lnN, if_neg (by decide), List.take_succ_cons] at h
    exact absurd (List.cons.inj h).1 (by decide)
  rw [h3]
  simp only [sL, List.length_replicate, List.nil_append, List.map_cons, List.map_nil]
end Go.Proofs.YtjfkhlmoppbbgaaGreatDoor
