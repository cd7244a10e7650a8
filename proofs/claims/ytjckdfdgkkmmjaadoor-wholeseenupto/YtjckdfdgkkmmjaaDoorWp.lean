/- WholeSeen: two rows of 256 bytes. -/
import Derived.Test.YtjckdfdgkkmmjaaDoorHs
import Derived.Test.YtjckdfdgkkmmjaaDoorYj
import Derived.Test.YtjckdfdgkkmmjaaDoorYl
import Derived.Laws.OwnMore
import Derived.Laws.MakeOwn
import Derived.OrdersHeld
namespace Go.Proofs.YtjckdfdgkkmmjaaDoor
open Go.RowKit Go.Sort

theorem inf5 : (Tryd.prog.info? 5).map (fun i => (i.zero, i.size, i.bytes)) = some (some (.int .u8 0), 1, 1) := by kernel_rfl
theorem make256 {Z : Array Value} (hZ : Z = (arV fun _ => .int .u8 0).toArray) (W : World) : (Instr.makeSlice 27 (.int .i64 256) (.int .i64 256)).run Tryd.prog W = .ok (.slice (some ⟨W.heap.size, 0, none⟩) 256 256) (W.alloc (.cells Z 5)) := by
  have h := inf5
  cases hi : Tryd.prog.info? 5 with
  | none => rw [hi] at h; simp at h
  | some i =>
    rw [hi] at h
    simp only [Option.map_some, Option.some.injEq, Prod.mk.injEq] at h
    obtain ⟨h1, h2, h3⟩ := h
    have h4 := run_makeSlice (P := Tryd.prog) W 27 5 i _ Tryd.underlying27 hi h1 .i64 .i64 256 256 (by omega) (by omega) (by rw [h2]; decide) (by rw [h3]; decide) (by omega)
    rw [h4, h2, hZ]
    have e : madeCells (Value.int .u8 0).cells ((256 : Int).toNat * 1) = (arV fun _ => Value.int .u8 0).toArray := by
      apply Array.ext'
      apply List.ext_getElem?
      intro j
      simp [madeCells, arV, Value.cells, Nat.mod_one]
    simp only [e]
    rfl
theorem made_two (wr : World) {Z : Array Value} (hZ : Z = (arV fun _ => .int .u8 0).toArray) : ArAt ((wr.alloc (.cells Z 5)).alloc (.cells Z 5)).drew wr.heap.size 5 (fun _ => .int .u8 0) ∧ ArAt ((wr.alloc (.cells Z 5)).alloc (.cells Z 5)).drew (wr.heap.size + 1) 5 (fun _ => .int .u8 0) ∧ Below wr.heap.size wr ((wr.alloc (.cells Z 5)).alloc (.cells Z 5)).drew := by
  subst hZ
  have h1 := ArAt.new wr 5 (fun _ => .int .u8 0)
  have hb1 := (Below.refl wr.heap.size wr).alloc (Nat.le_refl _) (.cells (arV fun _ => .int .u8 0).toArray 5)
  have e : (wr.alloc (.cells (arV fun _ => .int .u8 0).toArray 5)).heap.size = wr.heap.size + 1 := by simp
  have h2 := ArAt.new (wr.alloc (.cells (arV fun _ => .int .u8 0).toArray 5)) 5 (fun _ => .int .u8 0)
  have hb2 := (Below.refl (wr.alloc (.cells (arV fun _ => .int .u8 0).toArray 5)).heap.size (wr.alloc (.cells (arV fun _ => .int .u8 0).toArray 5))).alloc (Nat.le_refl _) (.cells (arV fun _ => .int .u8 0).toArray 5)
  rw [e] at h2
  refine ⟨(h1.stay hb2).stay ((Below.refl _ _).drew), h2.stay ((Below.refl _ _).drew), ?_⟩
  exact (hb1.trans (hb2.mono (by omega))).drew

/-- The second row, up to one. -/
def tuF (t k i : Nat) : Value := .int .u8 ((if i < k then (i + t) % 256 else 0 : Nat) : Int)
theorem tu_zero (t : Nat) : tuF t 0 = fun _ => .int .u8 0 := by funext i; simp [tuF]
theorem tu_next (t k : Nat) : (fun j => if j = k then .int .u8 (((k + t) % 256 : Nat) : Int) else tuF t k j) = tuF t (k + 1) := by
  funext j
  unfold tuF
  by_cases h : j = k
  · rw [if_pos h, if_pos (by omega), h]
  · rw [if_neg h]
    by_cases h2 : j < k
    · rw [if_pos h2, if_pos (by omega)]
    · rw [if_neg h2, if_neg (by omega)]
/-- The bytes from one on, around. -/
def frL (t : Nat) : List UInt8 := (List.range 256).map fun i => UInt8.ofNat (i + t)
theorem fr_len (t : Nat) : (frL t).length = 256 := by simp [frL]
theorem fr_nodup (t : Nat) : (frL t).Nodup := by
  unfold frL
  rw [List.nodup_iff_pairwise_ne, List.pairwise_map]
  refine List.Pairwise.imp_of_mem (fun {a b} ha hb h e => ?_) (List.pairwise_lt_range (n := 256))
  have ha := List.mem_range.1 ha
  have hb := List.mem_range.1 hb
  have e2 := congrArg UInt8.toNat e
  simp only [UInt8.toNat_ofNat'] at e2
  omega
theorem fr_mem (t : Nat) (c : UInt8) : c ∈ frL t := by
  unfold frL
  rw [List.mem_map]
  have hc := c.toNat_lt
  refine ⟨(c.toNat + (256 - t % 256)) % 256, List.mem_range.2 (Nat.mod_lt _ (by omega)), ?_⟩
  apply UInt8.toNat_inj.1
  simp only [UInt8.toNat_ofNat']
  omega
theorem fr_at (t i : Nat) (h : i < (frL t).length) : ((frL t)[i]).toNat = (i + t) % 256 := by
  unfold frL
  simp
theorem Ar.conv {W : World} {b : Nat} {l : List UInt8} {f : Nat → Value} (h : ArAt W b 5 f) (hl : l.length = 256) (hf : ∀ i (hi : i < l.length), f i = .int .u8 ((l[i]).toNat : Nat)) : (convert 27 9 (.slice (some ⟨b, 0, none⟩) 256 256)).run Tryd.prog W = .ok (.string (bst l)) W := by
  have hc : ∀ i, i < 256 → W.cell? ⟨b, 0 + i, none⟩ = some (.int .u8 ((l.map fun (b : UInt8) => (b.toNat : Int)).getD i 0)) := by
    intro i hi
    rw [Nat.zero_add, h.cell i hi, hf i (by omega)]
    simp [List.getD_eq_getElem?_getD, List.getElem?_eq_getElem (show i < l.length by omega)]
  have h3 := run_convert_bytes_arg (P := Tryd.prog) W 27 5 Tryd.underlying27 Tryd.underlying5 b 0 256 256 (l.map fun (b : UInt8) => (b.toNat : Int)) (by simp [hl]) hc 9 Tryd.underlying9
  rw [h3]
  have e : (l.map fun (b : UInt8) => (b.toNat : Int)).map (fun n => UInt8.ofNat n.toNat) = l := by
    rw [List.map_map]
    exact (List.map_congr_left (g := id) (fun b _ => by simp)).trans (List.map_id l)
  simp only [strOfNums, e, bst]
theorem conv_tu {W : World} {b t : Nat} (h : ArAt W b 5 (tuF t 256)) : (convert 27 9 (.slice (some ⟨b, 0, none⟩) 256 256)).run Tryd.prog W = .ok (.string (bst (frL t))) W :=
  Ar.conv h (fr_len t) (fun i hi => by
    rw [fr_at t i hi]
    unfold tuF
    rw [fr_len] at hi
    rw [if_pos hi])
theorem op_call {P : Program} {ops : Array Oper} {Q : Exit → Act → World → Prop} {i : Nat} {o : Oper} {K : Act → World → Prop} {a : Act} {w : World} {f : FuncId} {args : Array Value} {R : Value → World → Prop} (d : Option Tmp) (hi : ops[i]? = some o) (hd : o.dst = d) (hw : Region.wanted o (yielded ops a.tmps) = true) (hx : (execOp a.eval o).run P w = .ok (.enter f args) w) (hc : Calls P f args w fun e w' => ∃ v, e = .returned v ∧ R v w') (h : ∀ v w', R v w' → K (a.put d v) w') : wpOp P ops Q i K a w := by
  unfold wpOp
  rw [hi]
  dsimp only
  rw [if_pos hw]
  refine .inl ?_
  unfold Oper.wp
  rw [hx]
  refine Calls.mono hc ?_
  rintro e w' ⟨v, rfl, hR⟩
  show K (a.put o.dst v) w'
  rw [hd]
  exact h v w' hR

theorem load_all {T : Nat → UInt8} {W : World} {b : Nat} {A : Array Value} (hA : A = (arV (btF T)).toArray) (h : ArAt W b 28 (btF T)) (V : World) (hV : Below W.heap.size W V) : (Instr.loadAt 28 (.pointer (some ⟨b, 0, none⟩))).run Tryd.prog V = .ok (.agg A) V := by
  have h2 := rangeA hA (h.stay hV)
  have h3 := run_loadAt_mid (P := Tryd.prog) _ b 0 28 A.toList _ h2 und31 rfl (by rw [info31]; simp [sizeA hA])
  rw [show A.toList.toArray = A from Array.toArray_toList] at h3
  exact h3
theorem load_yield {b : Nat} {A : Array Value} {V : World} {a : Act} {o : Oper} {x : Operand} (ho : o.op = .load 28 x) (hx : a.eval x = .pointer (some ⟨b, 0, none⟩)) (h : (Instr.loadAt 28 (.pointer (some ⟨b, 0, none⟩))).run Tryd.prog V = .ok (.agg A) V) : (execOp a.eval o).run Tryd.prog V = .ok (.value (.agg A)) V := by
  simp [execOp, ho, hx, h]

end Go.Proofs.YtjckdfdgkkmmjaaDoor
