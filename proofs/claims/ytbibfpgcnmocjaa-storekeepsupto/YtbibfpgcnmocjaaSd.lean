/- store: the program's Out, Written, Read, lay, Print, Write. -/
import Derived.Test.YtbibfpgcnmocjaaSc
namespace Go.Proofs.Ytbibfpgcnmocjaa
open Go.RowKit

abbrev ptrV (b : Nat) : Value := .pointer (some ⟨b, 0, none⟩)
/-- The program's store; F are its blocks. -/
def I0 (W : World) (F : Nat → Prop) (b : Nat) (S : Sr) : Prop := ∃ mb p v fm D, SA W b mb p v fm D S ∧ F = ft b mb v fm
/-- What a call leaves: only blocks of the store, and new ones, were written. -/
def Pst (F : Nat → Prop) (W : World) (b : Nat) (S : Sr) (R : Value) (e : Ending) (w' : World) : Prop := e = .returned R ∧ Tch F W w' ∧ ∃ F', I0 w' F' b S ∧ ∀ k, F' k → F k ∨ W.heap.size ≤ k
theorem I0.keep {W W' : World} {F : Nat → Prop} {b : Nat} {S : Sr} (h : I0 W F b S) (hk : ∀ k, F k → W'.heap[k]? = W.heap[k]?) : I0 W' F b S := by
  obtain ⟨mb, p, v, fm, D, h, rfl⟩ := h
  exact ⟨mb, p, v, fm, D, h.keep hk, rfl⟩
theorem I0.lt {W : World} {F : Nat → Prop} {b : Nat} {S : Sr} (h : I0 W F b S) : ∀ k, F k → k < W.heap.size := by
  obtain ⟨mb, p, v, fm, D, h, rfl⟩ := h
  exact h.lt
theorem lyS : Ly 66 4 1 := by unfold Ly; kernel_rfl
theorem lyF : Ly 68 3 0 := by unfold Ly; kernel_rfl
theorem ft_file {b mb : Nat} {v : Value} {fm : List UInt8 → Option Fb} {n : List UInt8} {x : Fb} (hx : fm n = some x) {k : Nat} (hk : bft x.b x.v k) : ft b mb v fm k := .inr (.inr (.inr ⟨n, x, hx, hk⟩))
theorem ft_upd {W : World} {b mb : Nat} {v : Value} {fm : List UInt8 → Option Fb} {n : List UInt8} {x y : Fb} (hx : fm n = some x) (hb : y.b = x.b) (hg : ∀ g, y.v.ownBlock = some g → x.v.ownBlock = some g ∨ W.heap.size ≤ g) {k : Nat} (hk : ft b mb v (updF fm n y) k) : ft b mb v fm k ∨ W.heap.size ≤ k := by
  rcases hk with h | h | h | ⟨m, z, hz, h⟩
  · exact .inl (.inl h)
  · exact .inl (.inr (.inl h))
  · exact .inl (.inr (.inr (.inl h)))
  · unfold updF at hz
    split at hz
    · cases hz
      rcases h with h | h
      · exact .inl (.inr (.inr (.inr ⟨n, x, hx, .inl (h.trans hb)⟩)))
      · rcases hg k h with h1 | h1
        · exact .inl (.inr (.inr (.inr ⟨n, x, hx, .inr h1⟩)))
        · exact .inr h1
    · exact .inl (.inr (.inr (.inr ⟨m, z, hz, h⟩)))
theorem ft_row {W : World} {b mb : Nat} {v v' : Value} {fm : List UInt8 → Option Fb} (hg : ∀ g, v'.ownBlock = some g → v.ownBlock = some g ∨ W.heap.size ≤ g) {k : Nat} (hk : ft b mb v' fm k) : ft b mb v fm k ∨ W.heap.size ≤ k := by
  rcases hk with h | h | h | h
  · exact .inl (.inl h)
  · exact .inl (.inr (.inl h))
  · rcases hg k h with h1 | h1
    · exact .inl (.inr (.inr (.inl h1)))
    · exact .inr h1
  · exact .inl (.inr (.inr (.inr h)))

set_option maxRecDepth 100000 in
set_option maxHeartbeats 1000000 in
theorem written_any {W : World} {F : Nat → Prop} {b : Nat} {S : Sr} (h : I0 W F b S) : Calls Try.prog 14 #[ptrV b] W fun e w' => e = .returned (.int .i64 (S.wr : Nat)) ∧ w' = W := by
  obtain ⟨mb, p, v, fm, D, h, rfl⟩ := h
  obtain ⟨c3, _⟩ := h.cw
  clear h
  go_enter Try.func14, Try.ntmps14
  go_wp2
  go_ret
  exact ⟨rfl, rfl⟩

set_option maxRecDepth 100000 in
set_option maxHeartbeats 1000000 in
theorem out_any {W : World} {F : Nat → Prop} {b : Nat} {S : Sr} (h : I0 W F b S) : Calls Try.prog 13 #[ptrV b] W (Pst F W b S (.string ⟨S.out.toArray⟩)) := by
  obtain ⟨mb, p, v, fm, D, h, rfl⟩ := h
  have HS := hideT (str_any h.prt (by decide))
  have HH := hideT h
  clear h
  go_enter Try.func13, Try.ntmps13
  go_wp2_with fail
  refine HS.out.mono ?_
  rintro e w1 ⟨rfl, h1, ht, hs⟩
  have HP := hideT (show Tch (ft b mb v fm) W w1 ∧ SA w1 b mb p v fm D S from ⟨ht.mono (fun j hj => .inr (.inr (.inl hj))), HH.out.printed h1 (ht.mono (fun j hj => .inr hj)) (fun g hg => .inl hg)⟩)
  clear h1 ht hs HS HH
  go_wp2
  go_ret
  exact ⟨rfl, HP.out.1, _, ⟨mb, p, v, fm, D, HP.out.2, rfl⟩, fun k hk => .inl hk⟩

set_option maxRecDepth 100000 in
set_option maxHeartbeats 1000000 in
theorem read_any {W : World} {F : Nat → Prop} {b : Nat} {S : Sr} (h : I0 W F b S) (n : ByteArray) (hn : n.size ≤ 140737488355328) : Calls Try.prog 11 #[ptrV b, .string n] W (Pst F W b S (.tuple #[.string ⟨(readD S n.data.toList).toArray⟩, .bool (look S.fs n.data.toList).isSome])) := by
  obtain ⟨mb, p, v, fm, D, h, rfl⟩ := h
  obtain ⟨cm, fm0⟩ := h.cm
  have hf := h.find n hn
  have hl := h.lk n.data.toList
  cases hx : fm n.data.toList with
  | none =>
    rw [hx] at hf hl
    have hR : readD S n.data.toList = [] := by unfold readD; rw [hl]; rfl
    have hI : (look S.fs n.data.toList).isSome = false := by rw [hl]; rfl
    rw [hR, hI]
    have hf' : (Instr.lookup 60 (.map (some mb)) (.string n) false).run Try.prog W = .ok (.pointer none) W := hf
    have HH := hideT h
    clear hf h hl hx hR hI
    go_enter Try.func11, Try.ntmps11
    go_wp2
    go_ret2
    exact ⟨rfl, Tch.refl _ _, _, ⟨mb, p, v, fm, D, HH.out, rfl⟩, fun k hk => .inl hk⟩
  | some x =>
    rw [hx] at hf hl
    have hR : readD S n.data.toList = x.f.data := by unfold readD; rw [hl]; rfl
    have hI : (look S.fs n.data.toList).isSome = true := by rw [hl]; rfl
    rw [hR, hI]
    clear hR hI
    have hf' : (Instr.lookup 60 (.map (some mb)) (.string n) false).run Try.prog W = .ok (.pointer (some ⟨x.b, 0, none⟩)) W := hf
    have HS := hideT (str_any (h.fil _ x hx) (by decide))
    have HX := hideT hx
    have HH := hideT h
    clear hf h hl hx
    go_enter Try.func11, Try.ntmps11
    go_wp2_with fail
    refine HS.out.mono ?_
    rintro e w1 ⟨rfl, h1, ht, hs⟩
    have HP := hideT (show Tch (ft b mb v fm) W w1 ∧ I0 w1 (ft b mb v fm) b S from by
      refine ⟨ht.mono (fun j hj => ft_file HX.out (.inr hj)), ?_⟩
      have h2 := HH.out.changed HX.out (y := x) rfl h1 (ht.mono (fun j hj => .inr hj)) (fun g hg => .inl hg)
      have e1 : updF fm n.data.toList x = fm := by
        funext m
        unfold updF
        split
        · rename_i e
          rw [e, HX.out]
        · rfl
      have e2 : setF S.fs n.data.toList x.f = S.fs := set_same (by rw [HH.out.lk, HX.out]; rfl)
      rw [e1, e2] at h2
      exact ⟨mb, p, v, fm, D, h2, rfl⟩)
    clear h1 ht hs HS HH HX
    go_wp2
    go_ret2
    exact ⟨rfl, HP.out.1, _, HP.out.2, fun k hk => .inl hk⟩

set_option maxRecDepth 100000 in
set_option maxHeartbeats 1000000 in
theorem lay_print {W : World} {F : Nat → Prop} {b : Nat} {S : Sr} (h : I0 W F b S) (ho : SOk S) (t : ByteArray) (ht : t.size ≤ 140737488300000) : Calls Try.prog 33 #[ptrV b, .pointer (some ⟨b, 1, none⟩), .string t] W (Pst F W b (S.print t.data.toList) (.int .i64 (printE S t.data.toList : Nat))) := by
  obtain ⟨mb, p, v, fm, D, h, rfl⟩ := h
  obtain ⟨c3, f3⟩ := h.cw
  have hw := ho.wr
  have hou := ho.out
  have w0 : IntKind.i64.wrap ((32768 : Int) - (S.wr : Int)) = (32768 : Int) - (S.wr : Int) := by rw [IntKind.wrap_i64]; omega
  have hlt : t.data.toList.length = t.size := rfl
  by_cases hbig : 32768 < S.wr + t.size
  · have k1 : (32768 : Int) - (S.wr : Int) < (t.size : Int) := by omega
    have hE : printE S t.data.toList = 16 := by unfold printE; rw [if_pos (by rw [hlt]; exact hbig)]
    have hS : S.print t.data.toList = S := by unfold Sr.print; rw [hE, if_neg (by decide)]
    rw [hE, hS]
    have HH := hideT h
    clear h hbig hE hS
    go_enter Try.func33, Try.ntmps33
    go_wp2
    go_ret
    exact ⟨rfl, Tch.refl _ _, _, ⟨mb, p, v, fm, D, HH.out, rfl⟩, fun k hk => .inl hk⟩
  · have k1 : ((32768 : Int) - (S.wr : Int) < (t.size : Int)) = False := by rw [eq_iff_iff, iff_false]; omega
    have hE : printE S t.data.toList = 0 := by unfold printE; rw [if_neg (by rw [hlt]; exact hbig)]
    have hS : S.print t.data.toList = ⟨S.fs, S.out ++ t.data.toList, S.wr + t.size⟩ := by unfold Sr.print; rw [hE, if_pos rfl]; rfl
    rw [hE, hS]
    have HW := hideT (write_any h.prt (by decide) lyS t (by omega))
    have HH := hideT h
    have w1' : IntKind.i64.wrap ((S.wr : Int) + (t.size : Int)) = ((S.wr + t.size : Nat) : Int) := by rw [IntKind.wrap_i64]; omega
    clear h hE hS f3
    go_enter Try.func33, Try.ntmps33
    go_wp2_with fail
    refine HW.out.mono ?_
    rintro e w1 ⟨rfl, v', h1, ht1, hg1⟩
    have h2 : SA w1 b mb (.pointer (some ⟨b, 1, none⟩)) v' fm D ⟨S.fs, S.out ++ t.data.toList, S.wr⟩ := HH.out.printed h1 ht1 hg1
    obtain ⟨d3, e3⟩ := h2.cw
    have HP := hideT (show ∀ x : Int, x = ((S.wr + t.size : Nat) : Int) → Tch (ft b mb v fm) W (w1.setCell ⟨b, 3, none⟩ (.int .i64 x)) ∧ SA (w1.setCell ⟨b, 3, none⟩ (.int .i64 x)) b mb (.pointer (some ⟨b, 1, none⟩)) v' fm D ⟨S.fs, S.out ++ t.data.toList, S.wr + t.size⟩ ∧ ∀ k, ft b mb v' fm k → ft b mb v fm k ∨ W.heap.size ≤ k from by
      rintro x rfl
      exact ⟨(ht1.mono (fun j hj => by rcases hj with h | h; exact .inl h; exact .inr (.inr (.inl h)))).put (.inl rfl) _ _, h2.setWr _, fun k hk => ft_row hg1 hk⟩)
    clear h1 ht1 hg1 h2 HW HH
    go_wp2
    go_ret
    have hx := HP.out _ (by first | rfl | omega)
    exact ⟨rfl, hx.1, _, ⟨mb, _, v', fm, D, hx.2.1, rfl⟩, hx.2.2⟩

set_option maxRecDepth 100000 in
set_option maxHeartbeats 1000000 in
theorem print_any {W : World} {F : Nat → Prop} {b : Nat} {S : Sr} (h : I0 W F b S) (ho : SOk S) (t : ByteArray) (ht : t.size ≤ 140737488300000) : Calls Try.prog 19 #[ptrV b, .string t] W (Pst F W b (S.print t.data.toList) (.int .i64 (printE S t.data.toList : Nat))) := by
  have HL := hideT (lay_print h ho t ht)
  clear h ho
  go_enter Try.func19, Try.ntmps19
  go_wp2_with fail
  refine HL.out.mono ?_
  rintro e w1 ⟨rfl, h1, h2⟩
  have HP := hideT (And.intro h1 h2)
  clear h1 h2 HL
  go_wp2
  go_ret
  exact ⟨rfl, HP.out.1, HP.out.2⟩

set_option maxRecDepth 100000 in
set_option maxHeartbeats 1000000 in
theorem lay_file {W : World} {b mb : Nat} {p v : Value} {fm : List UInt8 → Option Fb} {D : DataW Unit} {S : Sr} (h : SA W b mb p v fm D S) (ho : SOk S) {n : List UInt8} {x : Fb} (hx : fm n = some x) (hop : x.f.op = true) (t : ByteArray) (ht : t.size ≤ 140737488300000) : Calls Try.prog 33 #[ptrV b, .pointer (some ⟨x.b, 0, none⟩), .string t] W (Pst (ft b mb v fm) W b (S.write n t.data.toList) (.int .i64 (writeE S n t.data.toList : Nat))) := by
  obtain ⟨c3, f3⟩ := h.cw
  have hw := ho.wr
  have hlk : look S.fs n = some x.f := by rw [h.lk, hx]; rfl
  have hda := ho.dat n x.f hlk
  have w0 : IntKind.i64.wrap ((32768 : Int) - (S.wr : Int)) = (32768 : Int) - (S.wr : Int) := by rw [IntKind.wrap_i64]; omega
  have hlt : t.data.toList.length = t.size := rfl
  have hwE : writeE S n t.data.toList = printE S t.data.toList := by unfold writeE; rw [hlk]; dsimp only; rw [if_neg (by rw [hop]; decide)]
  by_cases hbig : 32768 < S.wr + t.size
  · have k1 : (32768 : Int) - (S.wr : Int) < (t.size : Int) := by omega
    have hE : printE S t.data.toList = 16 := by unfold printE; rw [if_pos (by rw [hlt]; exact hbig)]
    have hS : S.write n t.data.toList = S := by unfold Sr.write; rw [hwE, hE, hlk]; rfl
    rw [hwE, hE, hS]
    have HH := hideT h
    clear h hbig hE hS hwE hlk hx hop
    go_enter Try.func33, Try.ntmps33
    go_wp2
    go_ret
    exact ⟨rfl, Tch.refl _ _, _, ⟨mb, p, v, fm, D, HH.out, rfl⟩, fun k hk => .inl hk⟩
  · have k1 : ((32768 : Int) - (S.wr : Int) < (t.size : Int)) = False := by rw [eq_iff_iff, iff_false]; omega
    have hE : printE S t.data.toList = 0 := by unfold printE; rw [if_neg (by rw [hlt]; exact hbig)]
    have hS : S.write n t.data.toList = ⟨setF S.fs n ⟨x.f.data ++ t.data.toList, x.f.op⟩, S.out, S.wr + t.size⟩ := by unfold Sr.write; rw [hwE, hE, hlk]; rfl
    rw [hwE, hE, hS]
    have HW := hideT (write_any (h.fil n x hx) (by decide) lyF t (by omega))
    have HH := hideT h
    have HX := hideT hx
    have w1' : IntKind.i64.wrap ((S.wr : Int) + (t.size : Int)) = ((S.wr + t.size : Nat) : Int) := by rw [IntKind.wrap_i64]; omega
    clear h hE hS f3 hwE hlk hx hop
    go_enter Try.func33, Try.ntmps33
    go_wp2_with fail
    refine HW.out.mono ?_
    rintro e w1 ⟨rfl, v', h1, ht1, hg1⟩
    have h2 := HH.out.changed HX.out (y := ⟨x.b, .pointer (some ⟨x.b, 0, none⟩), v', ⟨x.f.data ++ t.data.toList, x.f.op⟩⟩) rfl h1 ht1 hg1
    obtain ⟨d3, e3⟩ := h2.cw
    have d3' : w1.cell? ⟨b, 3, none⟩ = some (.int .i64 (S.wr : Nat)) := d3
    have HP := hideT (show ∀ z : Int, z = ((S.wr + t.size : Nat) : Int) → Tch (ft b mb v fm) W (w1.setCell ⟨b, 3, none⟩ (.int .i64 z)) ∧ I0 (w1.setCell ⟨b, 3, none⟩ (.int .i64 z)) (ft b mb v (updF fm n ⟨x.b, .pointer (some ⟨x.b, 0, none⟩), v', ⟨x.f.data ++ t.data.toList, x.f.op⟩⟩)) b ⟨setF S.fs n ⟨x.f.data ++ t.data.toList, x.f.op⟩, S.out, S.wr + t.size⟩ ∧ ∀ k, ft b mb v (updF fm n ⟨x.b, .pointer (some ⟨x.b, 0, none⟩), v', ⟨x.f.data ++ t.data.toList, x.f.op⟩⟩) k → ft b mb v fm k ∨ W.heap.size ≤ k from by
      rintro z rfl
      exact ⟨(ht1.mono (fun j hj => ft_file HX.out hj)).put (.inl rfl) _ _, ⟨mb, p, v, _, D, h2.setWr _, rfl⟩, fun k hk => ft_upd (y := ⟨x.b, .pointer (some ⟨x.b, 0, none⟩), v', ⟨x.f.data ++ t.data.toList, x.f.op⟩⟩) HX.out rfl hg1 hk⟩)
    clear h1 ht1 hg1 h2 HW HH HX d3
    go_wp2
    go_ret
    have hz := HP.out _ (by first | rfl | omega)
    exact ⟨rfl, hz.1, _, hz.2.1, hz.2.2⟩

set_option maxRecDepth 100000 in
set_option maxHeartbeats 1000000 in
theorem writeS_any {W : World} {F : Nat → Prop} {b : Nat} {S : Sr} (h : I0 W F b S) (ho : SOk S) (n t : ByteArray) (hn : n.size ≤ 140737488355328) (ht : t.size ≤ 140737488300000) : Calls Try.prog 21 #[ptrV b, .string n, .string t] W (Pst F W b (S.write n.data.toList t.data.toList) (.int .i64 (writeE S n.data.toList t.data.toList : Nat))) := by
  obtain ⟨mb, p, v, fm, D, h, rfl⟩ := h
  obtain ⟨cm, fm0⟩ := h.cm
  have hf := h.find n hn
  have hl := h.lk n.data.toList
  have HH := hideT h
  cases hx : fm n.data.toList with
  | none =>
    rw [hx] at hf hl
    have hf' : (Instr.lookup 60 (.map (some mb)) (.string n) false).run Try.prog W = .ok (.pointer none) W := hf
    have hE : writeE S n.data.toList t.data.toList = 5 := by unfold writeE; rw [hl]; rfl
    have hS : S.write n.data.toList t.data.toList = S := by unfold Sr.write; rw [hl]; rfl
    rw [hE, hS]
    clear hf h hl hx hE hS
    go_enter Try.func21, Try.ntmps21
    go_wp2
    go_ret
    exact ⟨rfl, Tch.refl _ _, _, ⟨mb, p, v, fm, D, HH.out, rfl⟩, fun k hk => .inl hk⟩
  | some x =>
    rw [hx] at hf hl
    have hl' : look S.fs n.data.toList = some x.f := hl
    have hf' : (Instr.lookup 60 (.map (some mb)) (.string n) false).run Try.prog W = .ok (.pointer (some ⟨x.b, 0, none⟩)) W := hf
    obtain ⟨c2, _⟩ := (h.fil _ x hx).c2
    cases hop : x.f.op with
    | false =>
      rw [hop] at c2
      have hE : writeE S n.data.toList t.data.toList = 5 := by unfold writeE; rw [hl']; dsimp only; rw [hop, if_pos rfl]
      have hS : S.write n.data.toList t.data.toList = S := by unfold Sr.write; rw [hE, hl']; rfl
      rw [hE, hS]
      clear hf h hl hx hE hS hl' hop
      go_enter Try.func21, Try.ntmps21
      go_wp2
      go_ret
      exact ⟨rfl, Tch.refl _ _, _, ⟨mb, p, v, fm, D, HH.out, rfl⟩, fun k hk => .inl hk⟩
    | true =>
      rw [hop] at c2
      have HL := hideT (lay_file h ho hx hop t ht)
      clear hf h hl hx hl' hop HH ho
      go_enter Try.func21, Try.ntmps21
      go_wp2_with fail
      refine HL.out.mono ?_
      rintro e w1 ⟨rfl, h1, h2⟩
      have HP := hideT (And.intro h1 h2)
      clear h1 h2 HL
      go_wp2
      go_ret
      exact ⟨rfl, HP.out.1, HP.out.2⟩
end Go.Proofs.Ytbibfpgcnmocjaa
