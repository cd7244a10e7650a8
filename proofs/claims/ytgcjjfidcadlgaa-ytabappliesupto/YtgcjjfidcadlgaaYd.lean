/- ytab: arrays of 256 cells; hasTwice. -/
import Derived.Test.YtgcjjfidcadlgaaYa
import Derived.Deep.WholeRow
namespace Go.Proofs.Ytgcjjfidcadlgaa
open Go.RowKit

/-- 256 cells. -/
def arV (f : Nat → Value) : List Value := (List.range 256).map f
theorem arV_len (f : Nat → Value) : (arV f).length = 256 := by simp [arV]
theorem arV_at (f : Nat → Value) (i : Nat) (h : i < 256) : (arV f)[i]? = some (f i) := by simp [arV, h]
theorem arV_set (f : Nat → Value) (i : Nat) (v : Value) : (arV f).set i v = arV (fun j => if j = i then v else f j) := by
  apply List.ext_getElem?
  intro j
  rw [List.getElem?_set]
  by_cases hj : j < 256
  · by_cases e : i = j
    · subst e
      rw [if_pos rfl, if_pos (by rw [arV_len]; exact hj), arV_at _ i hj, if_pos rfl]
    · rw [if_neg e, arV_at _ j hj, arV_at _ j hj, if_neg (fun h => e h.symm)]
  · have h1 : ∀ g : Nat → Value, (arV g)[j]? = none := fun g => List.getElem?_eq_none (by rw [arV_len]; omega)
    rw [h1, h1]
    split
    · rename_i e
      subst e
      simp [arV_len, hj]
    · rfl
/-- An array's block. -/
def ArAt (W : World) (b t : Nat) (f : Nat → Value) : Prop := W.heap[b]? = some (.cells (arV f).toArray t (0, 0))
theorem ArAt.cell {W : World} {b t : Nat} {f : Nat → Value} (h : ArAt W b t f) (i : Nat) (hi : i < 256) : W.cell? ⟨b, i, none⟩ = some (f i) := by
  unfold ArAt at h
  simp only [World.cell?, h]
  simpa using arV_at f i hi
theorem ArAt.frozen {W : World} {b t : Nat} {f : Nat → Value} (h : ArAt W b t f) (i : Nat) : W.frozen? ⟨b, i, none⟩ = false := by
  unfold ArAt at h
  simp [World.frozen?, h]
theorem ArAt.lt {W : World} {b t : Nat} {f : Nat → Value} (h : ArAt W b t f) : b < W.heap.size := (Array.getElem?_eq_some_iff.1 h).1
theorem ArAt.set {W : World} {b t : Nat} {f : Nat → Value} (h : ArAt W b t f) (i : Nat) (v : Value) : ArAt (W.setCell ⟨b, i, none⟩ v) b t (fun j => if j = i then v else f j) := by
  unfold ArAt at h ⊢
  simp only [World.setCell, Array.getElem?_modify, if_true, h, Option.map_some]
  rw [← arV_set]
  simp
theorem ArAt.stay {W W' : World} {b t : Nat} {f : Nat → Value} (h : ArAt W b t f) (hb : Below W.heap.size W W') : ArAt W' b t f := (hb.block b h.lt).trans h
theorem ArAt.new (W : World) (t : Nat) (f : Nat → Value) : ArAt (W.alloc (.cells (arV f).toArray t)) W.heap.size t f := heap_alloc_new W _
theorem arV_congr {f g : Nat → Value} (h : ∀ i, i < 256 → f i = g i) : arV f = arV g := by
  unfold arV
  exact List.map_congr_left (fun i hi => h i (List.mem_range.1 hi))
theorem arV_inj {f g : Nat → Value} (h : arV f = arV g) (i : Nat) (hi : i < 256) : f i = g i := by
  have h1 := arV_at f i hi
  rw [h, arV_at g i hi] at h1
  exact (Option.some.inj h1).symm

theorem inf31 : (Try.prog.info? 31).map (fun i => (i.zero, i.size)) = some (some (.agg (arV fun _ => .int .u8 0).toArray), 256) := by kernel_rfl
theorem inf39 : (Try.prog.info? 39).map (fun i => (i.zero, i.size)) = some (some (.agg (arV fun _ => .bool false).toArray), 256) := by kernel_rfl
theorem und31 : Try.prog.underlying 31 = some (.array 256 5) := by kernel_rfl
theorem und39 : Try.prog.underlying 39 = some (.array 256 4) := by kernel_rfl

/-- Which bytes stand in a text. -/
def seenF (m : List UInt8) (i : Nat) : Value := .bool (m.any fun x => x.toNat == i)
theorem seen_nil : (fun _ : Nat => Value.bool false) = seenF [] := rfl
theorem seen_snoc (m : List UInt8) (c : UInt8) : (fun j => if j = c.toNat then .bool true else seenF m j) = seenF (m ++ [c]) := by
  funext j
  unfold seenF
  rw [List.any_append]
  by_cases h : j = c.toNat
  · subst h
    simp
  · rw [if_neg h]
    have : (c.toNat == j) = false := by rw [beq_eq_false_iff_ne]; exact fun e => h e.symm
    simp [this]
theorem seen_mem (m : List UInt8) (c : UInt8) : seenF m c.toNat = .bool (decide (c ∈ m)) := by
  unfold seenF
  congr 1
  rw [Bool.eq_iff_iff, List.any_eq_true, decide_eq_true_iff]
  constructor
  · rintro ⟨x, hx, e⟩
    rw [beq_iff_eq] at e
    rw [← UInt8.toNat_inj.1 e]
    exact hx
  · exact fun h => ⟨c, h, by simp⟩

/-- A byte stands in it twice. -/
def twB (l : List UInt8) : Bool := !decide l.Nodup
theorem take_nodup_mem {l : List UInt8} {k : Nat} {c : UInt8} (h : l.take (k + 1) = l.take k ++ [c]) (hc : c ∈ l.take k) : twB l = true := by
  unfold twB
  rw [Bool.not_eq_true', decide_eq_false_iff_not]
  intro hn
  have h2 := hn.sublist (List.take_sublist (k + 1) l)
  rw [h, List.nodup_append] at h2
  exact h2.2.2 c hc c (by simp) rfl
theorem take_nodup_snoc {l : List UInt8} {k : Nat} {c : UInt8} (h : l.take (k + 1) = l.take k ++ [c]) (hc : c ∉ l.take k) (hn : (l.take k).Nodup) : (l.take (k + 1)).Nodup := by
  rw [h, List.nodup_append]
  refine ⟨hn, by simp, fun x hx y hy e => ?_⟩
  rw [List.mem_singleton] at hy
  subst hy
  subst e
  exact hc hx

set_option maxRecDepth 100000 in
set_option maxHeartbeats 2000000 in
theorem hasTwice_any (s : ByteArray) (hs : s.size ≤ 140737488355000) (w : World) :
    Calls Try.prog 18 #[.string s] w fun e w' => e = .returned (.bool (twB s.data.toList)) ∧ Below w.heap.size w w' := by
  have hlen : s.data.toList.length = s.size := rfl
  have hz := (zero_of_info inf39).1
  have hA0 := (Below.refl w.heap.size w).alloc (Nat.le_refl _) (.cells (arV fun _ => .bool false).toArray 39)
  have hN0 := ArAt.new w 39 (fun _ => .bool false)
  rw [seen_nil] at hN0 hA0 hz
  obtain ⟨Z, hZ⟩ : ∃ Z, Z = (arV (seenF [])).toArray := ⟨_, rfl⟩
  rw [← hZ] at hN0 hA0 hz
  have H0 := hideT (And.intro hN0 hA0)
  clear hN0 hA0 hZ
  go_enter Try.func18, Try.ntmps18
  go_wp2_with fail
  go_loopw [7] (fun i wr => ∃ k : Nat, k ≤ s.size ∧ i = .int .i64 k ∧ ArAt wr w.heap.size 39 (seenF (s.data.toList.take k)) ∧ Below w.heap.size w wr ∧ (s.data.toList.take k).Nodup) (fun i _ => s.size - (intOf i).toNat)
  case atStart => exact ⟨0, by omega, rfl, by simpa using H0.out.1, H0.out.2, by simp⟩
  case round =>
    obtain ⟨k, hk, rfl, hT, hB, hn⟩ := hrel
    clear hz
    by_cases hlt : k < s.size
    · have i1 : (k : Int) < (s.size : Int) := by omega
      have i2 : (0 : Int) ≤ (k : Int) := by omega
      have ht := take_snocB s k hlt
      have hcl := (s[k]'hlt).toNat_lt
      have hc := hT.cell (s[k]'hlt).toNat hcl
      have hf := hT.frozen (s[k]'hlt).toNat
      rw [seen_mem] at hc
      have j1 : (0 : Int) ≤ ((s[k]'hlt).toNat : Int) := by omega
      have j2 : ((s[k]'hlt).toNat : Int) < 256 := by omega
      by_cases hm : s[k]'hlt ∈ s.data.toList.take k
      · rw [decide_eq_true hm] at hc
        have HR := hideT (And.intro (take_nodup_mem ht hm) hB)
        clear hT hB hn ht hm
        go_wp2
        go_ret
        exact ⟨by rw [HR.out.1]; rfl, HR.out.2⟩
      · rw [decide_eq_false hm] at hc
        have hS := hT.set (s[k]'hlt).toNat (.bool true)
        rw [seen_snoc, ← ht] at hS
        have HR := hideT (And.intro hS (And.intro (hB.setCell (p := ⟨w.heap.size, (s[k]'hlt).toNat, none⟩) (Nat.le_refl _) (.bool true)) (take_nodup_snoc ht hm hn)))
        clear hT hB hn ht hm hS
        go_wp2
        exact ⟨⟨k + 1, by omega, by go_num, HR.out.1, HR.out.2.1, HR.out.2.2⟩, by simp [intOf]; omega⟩
    · have i1 : ((k : Int) < (s.size : Int)) = False := by rw [eq_iff_iff, iff_false]; omega
      have e : s.data.toList.take k = s.data.toList := List.take_of_length_le (by rw [hlen]; omega)
      rw [e] at hn
      have HR := hideT (And.intro (show twB s.data.toList = false by unfold twB; simp [hn]) hB)
      clear hT hB hn e
      go_wp2
      go_ret
      exact ⟨by rw [HR.out.1]; rfl, HR.out.2⟩

end Go.Proofs.Ytgcjjfidcadlgaa
