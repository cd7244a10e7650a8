/- ytab in plain mathematics: what Piece, New and Apply answer. -/
import Derived.Test.YtcpokkpjeeblnaaGreatDoorKBa
import Derived.Test.YtcpokkpjeeblnaaGreatDoorKUk
import Derived.Deep.WholeRow
set_option maxRecDepth 100000
set_option maxHeartbeats 2000000
namespace Go.Proofs.YtcpokkpjeeblnaaGreatDoor
variable {P : Prop}
theorem bya0 (h : P := by
 go_enter Tryz.func306, Tryz.ntmps306;go_wp2;go_ret;exact ⟨by simp_all, rfl⟩) : P := h
theorem bya1 (h : P := by
 go_wp2;refine bodyPost_ret (fault_result rfl rfl (put2 HC.out.1 _ _)) rfl ?_;exact ⟨rfl, HC.out.2.1 _ _⟩) : P := h
namespace ytb
open Go.RowKit
def alnB (c : UInt8) : Prop := (97 <= c.toNat /\ c.toNat <= 122) \/ (65 <= c.toNat /\ c.toNat <= 90) \/ (48 <= c.toNat /\ c.toNat <= 57)
theorem alnB_dec (c : UInt8) : alnB c \/ ¬ alnB c := Classical.em _
def pcR : List UInt8 -> Nat -> List UInt8 -> List UInt8 × Nat × Nat
 | [], _, acc => (acc, 0, 0)
 | b :: r, k, acc =>
  if b.toNat ≠ 92 then pcR r (k + 1) (acc ++ [b])
  else match r with
   | [] => ([], 6, k)
   | c :: q => if c.toNat = 110 then pcR q (k + 2) (acc ++ [10])
    else if (97 <= c.toNat /\ c.toNat <= 122) \/ (65 <= c.toNat /\ c.toNat <= 90) \/ (48 <= c.toNat /\ c.toNat <= 57) then ([], 12, k)
    else pcR q (k + 2) (acc ++ [c])
 termination_by l => l.length
def xd7 (l : List UInt8) : List UInt8 × Nat × Nat := pcR l 0 []
theorem pc_nil (k : Nat) (acc : List UInt8) : pcR [] k acc = (acc, 0, 0) := by unfold pcR; rfl
theorem pc_pl (b : UInt8) (r : List UInt8) (k : Nat) (acc : List UInt8) (h : b.toNat ≠ 92) : pcR (b :: r) k acc = pcR r (k + 1) (acc ++ [b]) := by
 rw [pcR.eq_def];dsimp only;rw [if_pos h]
theorem pc_end (b : UInt8) (k : Nat) (acc : List UInt8) (h : b.toNat = 92) : pcR [b] k acc = ([], 6, k) := by
 rw [pcR, if_neg (by omega)]
theorem pc_n (b c : UInt8) (q : List UInt8) (k : Nat) (acc : List UInt8) (h : b.toNat = 92) (h2 : c.toNat = 110) : pcR (b :: c :: q) k acc = pcR q (k + 2) (acc ++ [10]) := by
 rw [pcR, if_neg (by omega), if_pos h2]
theorem xn7 (b c : UInt8) (q : List UInt8) (k : Nat) (acc : List UInt8) (h : b.toNat = 92) (h2 : c.toNat ≠ 110) (h3 : alnB c) : pcR (b :: c :: q) k acc = ([], 12, k) := by
 rw [pcR, if_neg (by omega), if_neg h2, if_pos (by unfold alnB at h3; exact h3)]
theorem pc_esc (b c : UInt8) (q : List UInt8) (k : Nat) (acc : List UInt8) (h : b.toNat = 92) (h2 : c.toNat ≠ 110) (h3 : ¬ alnB c) : pcR (b :: c :: q) k acc = pcR q (k + 2) (acc ++ [c]) := by
 rw [pcR, if_neg (by omega), if_neg h2, if_neg (by unfold alnB at h3; exact h3)]
def arV (f : Nat -> Value) : List Value := (List.range 256).map f
theorem xb3 (f : Nat -> Value) : (arV f).length = 256 := by simp [arV]
theorem xls (f : Nat -> Value) (i : Nat) (h : i < 256) : (arV f)[i]? = some (f i) := by simp [arV, h]
theorem arV_set (f : Nat -> Value) (i : Nat) (v : Value) : (arV f).set i v = arV (fun j => if j = i then v else f j) := by
 apply List.ext_getElem?;intro j;rw [List.getElem?_set];by_cases hj : j < 256
 ·by_cases e : i = j
  ·subst e;rw [if_pos rfl, if_pos (by rw [xb3]; exact hj), xls _ i hj, if_pos rfl]
  ·rw [if_neg e, xls _ j hj, xls _ j hj, if_neg (fun h => e h.symm)]
 ·have h1 : ∀ g : Nat -> Value, (arV g)[j]? = none := fun g => List.getElem?_eq_none (by rw [xb3]; omega);rw [h1, h1];split
  ·rename_i e;subst e;simp [xb3, hj]
  ·rfl
def ArAt (W : World) (b t : Nat) (f : Nat -> Value) : Prop := W.heap[b]? = some (.cells (arV f).toArray t (0, 0))
variable {W : World} {b t k r : Nat} {l : List UInt8} {c : UInt8} {fn : Func} {tmps : Array Value} {x y : Value}
theorem ArAt.cell {f : Nat -> Value} (h : ArAt W b t f) (i : Nat) (hi : i < 256) : W.cell? ⟨b, i, none⟩ = some (f i) := by
 unfold ArAt at h;simp only [World.cell?, h];simpa using xls f i hi
theorem ArAt.frozen {f : Nat -> Value} (h : ArAt W b t f) (i : Nat) : W.frozen? ⟨b, i, none⟩ = false := by
 unfold ArAt at h;simp [World.frozen?, h]
theorem ArAt.lt {f : Nat -> Value} (h : ArAt W b t f) : b < W.heap.size := (Array.getElem?_eq_some_iff.1 h).1
theorem ArAt.set {f : Nat -> Value} (h : ArAt W b t f) (i : Nat) (v : Value) : ArAt (W.setCell ⟨b, i, none⟩ v) b t (fun j => if j = i then v else f j) := by
 unfold ArAt at h ⊢;simp only [World.setCell, Array.getElem?_modify, if_true, h, Option.map_some];rw [<- arV_set];simp
theorem ArAt.stay {W' : World} {f : Nat -> Value} (h : ArAt W b t f) (hb : Below W.heap.size W W') : ArAt W' b t f := (hb.block b h.lt).trans h
theorem ArAt.new (W : World) (t : Nat) (f : Nat -> Value) : ArAt (W.alloc (.cells (arV f).toArray t)) W.heap.size t f := heap_alloc_new W _
theorem xn8 {f g : Nat -> Value} (h : ∀ i, i < 256 -> f i = g i) : arV f = arV g := by
 unfold arV;exact List.map_congr_left (fun i hi => h i (List.mem_range.1 hi))
theorem inf31 : (Tryz.prog.info? 208).map (fun i => (i.zero, i.size)) = some (some (.agg (arV fun _ => .int .u8 0).toArray), 256) := by kernel_rfl
theorem inf39 : (Tryz.prog.info? 329).map (fun i => (i.zero, i.size)) = some (some (.agg (arV fun _ => .bool false).toArray), 256) := by kernel_rfl
theorem und31 : Tryz.prog.underlying 208 = some (.array 256 5) := by kernel_rfl
def xio (m : List UInt8) (i : Nat) : Value := .bool (m.any fun x => x.toNat == i)
theorem seen_nil : (fun _ : Nat => Value.bool false) = xio [] := rfl
theorem xn9 (m : List UInt8) (c : UInt8) : (fun j => if j = c.toNat then .bool true else xio m j) = xio (m ++ [c]) := by
 funext j;unfold xio;rw [List.any_append];by_cases h : j = c.toNat
 ·subst h;simp
 ·rw [if_neg h];have : (c.toNat == j) = false := by rw [beq_eq_false_iff_ne]; exact fun e => h e.symm
  simp [this]
theorem seen_mem (m : List UInt8) (c : UInt8) : xio m c.toNat = .bool (decide (c ∈ m)) := by
 unfold xio;congr 1;rw [Bool.eq_iff_iff, List.any_eq_true, decide_eq_true_iff];constructor
 ·rintro ⟨x, hx, e⟩;rw [beq_iff_eq] at e;rw [<- UInt8.toNat_inj.1 e];exact hx
 ·exact fun h => ⟨c, h, by simp⟩
def twB (l : List UInt8) : Bool := !decide l.Nodup
theorem xgq (h : l.take (k + 1) = l.take k ++ [c]) (hc : c ∈ l.take k) : twB l = true := by
 unfold twB;rw [Bool.not_eq_true', decide_eq_false_iff_not];intro hn;have h2 := hn.sublist (List.take_sublist (k + 1) l);rw [h, List.nodup_append] at h2;exact h2.2.2 c hc c (by simp) rfl
theorem xf0 (h : l.take (k + 1) = l.take k ++ [c]) (hc : c ∉ l.take k) (hn : (l.take k).Nodup) : (l.take (k + 1)).Nodup := by
 rw [h, List.nodup_append];refine ⟨hn, by simp, fun x hx y hy e => ?_⟩;rw [List.mem_singleton] at hy;subst hy;subst e;exact hc hx
theorem xip (s : ByteArray) (hs : s.size <= 140737488355000) (w : World) :
  Calls Tryz.prog 152 #[.string s] w fun e w' => e = .returned (.bool (twB s.data.toList)) /\ Below w.heap.size w w' := by
 have hlen : s.data.toList.length = s.size := rfl;have hz := (zero_of_info inf39).1;have hA0 := Bal w (.cells (arV fun _ => .bool false).toArray 329);have hN0 := ArAt.new w 329 (fun _ => .bool false);rw [seen_nil] at hN0 hA0 hz;obtain ⟨Z, hZ⟩ : ∃ Z, Z = (arV (xio [])).toArray := ⟨_, rfl⟩;rw [<- hZ] at hN0 hA0 hz;have H0 := hideT (And.intro hN0 hA0);clear hN0 hA0 hZ;go_enter Tryz.func152, Tryz.ntmps152
 go_wp2_with fail
 go_loopw [7] (fun i wr => ∃ k : Nat, k <= s.size /\ i = .int .i64 k /\ ArAt wr w.heap.size 329 (xio (s.data.toList.take k)) /\ Below w.heap.size w wr /\ (s.data.toList.take k).Nodup) (fun i _ => s.size - (intOf i).toNat)
 case atStart => exact ⟨0, by omega, rfl, by simpa using H0.out.1, H0.out.2, by simp⟩
 case round =>
  obtain ⟨k, hk, rfl, hT, hB, hn⟩ := hrel;clear hz;by_cases hlt : k < s.size
  ·have i1 : (k : Int) < (s.size : Int) := by omega
   have i2 : (0 : Int) <= (k : Int) := by omega
   have ht := take_snocB s k hlt;have hcl := (s[k]'hlt).toNat_lt;have hc := hT.cell (s[k]'hlt).toNat hcl;have hf := hT.frozen (s[k]'hlt).toNat;rw [seen_mem] at hc;have j1 : (0 : Int) <= ((s[k]'hlt).toNat : Int) := by omega
   have j2 : ((s[k]'hlt).toNat : Int) < 256 := by omega
   by_cases hm : s[k]'hlt ∈ s.data.toList.take k
   ·rw [decide_eq_true hm] at hc;have HR := hideT (And.intro (xgq ht hm) hB);clear hT hB hn ht hm;go_wp2;go_ret;exact ⟨by rw [HR.out.1]; rfl, HR.out.2⟩
   ·rw [decide_eq_false hm] at hc;have hS := hT.set (s[k]'hlt).toNat (.bool true);rw [xn9, <- ht] at hS;have HR := hideT (And.intro hS (And.intro (hB.setCell (p := ⟨w.heap.size, (s[k]'hlt).toNat, none⟩) qr (.bool true)) (xf0 ht hm hn)));clear hT hB hn ht hm hS;go_wp2;exact ⟨⟨k + 1, by omega, by go_num, HR.out.1, HR.out.2.1, HR.out.2.2⟩, by simp [intOf]; omega⟩
  ·have i1 : ((k : Int) < (s.size : Int)) = False := qg;have e : s.data.toList.take k = s.data.toList := List.take_of_length_le (by rw [hlen]; omega);rw [e] at hn;have HR := hideT (And.intro (show twB s.data.toList = false by unfold twB; simp [hn]) hB);clear hT hB hn e;go_wp2;go_ret;exact ⟨by rw [HR.out.1]; rfl, HR.out.2⟩
def valL : List UInt8 -> List UInt8 -> Nat -> UInt8 -> UInt8
 | a :: r, c :: q, b, x => valL r q b (if a.toNat = b then c else x)
 | [], _, _, x => x
 | _ :: _, [], _, x => x
theorem xlt : ∀ (l m : List UInt8) (a c : UInt8) (b : Nat) (x : UInt8), l.length = m.length -> valL (l ++ [a]) (m ++ [c]) b x = if a.toNat = b then c else valL l m b x
 | [], [], a, c, b, x, _ => by simp [valL]
 | [], _ :: _, a, c, b, x, h => by simp at h
 | _ :: _, [], a, c, b, x, h => by simp at h
 | a' :: r, c' :: q, a, c, b, x, h => by
  simp only [List.cons_append, valL];exact xlt r q a c b _ (by simpa using h)
def tabF (l m : List UInt8) (i : Nat) : Value := .int .u8 ((valL l m i (UInt8.ofNat i)).toNat : Nat)
def newR (l m : List UInt8) : (Nat -> Value) × Nat := if l.length ≠ m.length \/ twB l = true then (fun _ => .int .u8 0, 21) else (tabF l m, 0)
def idF (k i : Nat) : Value := .int .u8 ((if i < k then i else 0 : Nat) : Int)
theorem id_zero : idF 0 = fun _ => .int .u8 0 := by funext i; simp [idF]
theorem id_next (k : Nat) : (fun j => if j = k then .int .u8 k else idF k j) = idF (k + 1) := by
 funext j;unfold idF;by_cases h : j = k
 ·subst h;simp
 ·rw [if_neg h];by_cases h2 : j < k
  ·rw [if_pos h2, if_pos (by omega)]
  ·rw [if_neg h2, if_neg (by omega)]
theorem id_full : arV (idF 256) = arV (tabF [] []) := xn8 fun i hi => by
 unfold idF tabF;rw [if_pos hi];simp only [valL, UInt8.toNat_ofNat'];rw [Nat.mod_eq_of_lt (by omega)]
theorem tab_next (l m : List UInt8) (a c : UInt8) (h : l.length = m.length) : (fun j => if j = a.toNat then .int .u8 c.toNat else tabF l m j) = tabF (l ++ [a]) (m ++ [c]) := by
 funext j;unfold tabF;rw [xlt _ _ _ _ _ _ h];by_cases e : j = a.toNat
 ·rw [if_pos e, if_pos e.symm]
 ·rw [if_neg e, if_neg (fun h => e h.symm)]
theorem xoa (l m : List UInt8) : ∀ v ∈ arV (tabF l m), v.oneCell' = true := by
 intro v hv;simp only [arV, List.mem_map] at hv;obtain ⟨i, _, rfl⟩ := hv;rfl
theorem xhk : ∀ v ∈ arV (fun _ => Value.int .u8 0), v.oneCell' = true := by
 intro v hv;simp only [arV, List.mem_map] at hv;obtain ⟨i, _, rfl⟩ := hv;rfl
theorem new_one (l m : List UInt8) : ∀ v ∈ arV (newR l m).1, v.oneCell' = true := by
 unfold newR;split
 ·exact xhk
 ·exact xoa l m
theorem xlu : (Tryz.prog.info? 208).map (·.size) = some 256 := by kernel_rfl
theorem built31 : Tryz.prog.built 208 [] = some (arV fun _ => .int .u8 0).toArray := by kernel_rfl
theorem xc8 {f : Nat -> Value} (hf : fn.results = #[.cell r 208, .tmp t]) (hr : tmps[r]?.getD undef = .pointer (some ⟨b, 0, none⟩)) (h : ArAt W b 208 f) : (results fn tmps).run Tryz.prog W = .ok (.tuple #[.agg (arV f).toArray, tmps.getD t undef]) W := by
 have := run_loadVar_mid (P := Tryz.prog) W b 0 208 (arV f) _ (range_block h) und31 rfl (by rw [xlu, xb3]);simp [results, hf, asAddr, hr, this]
theorem xdw {f g : Nat -> Value} (h : ArAt W b 208 f) (h1 : ∀ v ∈ arV g, v.oneCell' = true) {Z : Array Value} (hZ : Z = (arV g).toArray) : ∃ W', (storeCells ⟨b, 0, none⟩ Z.toList 0).run Tryz.prog W = .ok () W' /\ ArAt W' b 208 g /\ (∀ k, k ≠ b -> W'.heap[k]? = W.heap[k]?) /\ W'.heap.size = W.heap.size /\ (∀ B X, B <= b -> Below B X W -> Below B X W') := by
 subst hZ;have ht : W.there b 0 (arV g).toArray.size := fun j hj => by
  have hj' : j < 256 := by simpa [xb3] using hj
  rw [Nat.zero_add, h.cell j hj', h.frozen j];exact ⟨rfl, rfl⟩
 have hrun := run_storeCells_cells (P := Tryz.prog) b 0 (arV g).toArray.toList 0 W (fun j hj => by simpa using (ht j (by simpa using hj)).1) (fun j hj => by simpa using (ht j (by simpa using hj)).2) (fun v hv => h1 v (by simpa using hv));have far : ∀ (vs : List Value) (o : Nat) (X : World) (j : Nat), j ≠ b -> (X.setCells b o vs).heap[j]? = X.heap[j]? := by
  intro vs;induction vs with
  | nil => intro o X j hj; rfl
  | cons v vs ih =>
   intro o X j hj;rw [World.setCells, ih _ _ _ hj];exact Below.heap_setCell X ⟨b, o, none⟩ v j hj
 have siz : ∀ (vs : List Value) (o : Nat) (X : World), (X.setCells b o vs).heap.size = X.heap.size := by
  intro vs;induction vs with
  | nil => intro o X; rfl
  | cons v vs ih =>
   intro o X;rw [World.setCells, ih];simp
 have bel : ∀ (vs : List Value) (o : Nat) (X Y : World) (B : Nat), B <= b -> Below B Y X -> Below B Y (X.setCells b o vs) := by
  intro vs;induction vs with
  | nil => intro o X Y B hB h; exact h
  | cons v vs ih =>
   intro o X Y B hB h;rw [World.setCells];exact ih _ _ _ _ hB (h.setCell (p := ⟨b, o, none⟩) hB v)
 have put : ∀ (vs pre cs suf : List Value) (X : World) (o : Nat), X.heap[b]? = some (.cells (pre ++ (cs ++ suf)).toArray 208) -> pre.length = o -> cs.length = vs.length -> (X.setCells b o vs).heap[b]? = some (.cells (pre ++ (vs ++ suf)).toArray 208) := by
  intro vs;induction vs with
  | nil =>
   intro pre cs suf X o h hp hc;obtain rfl : cs = [] := List.eq_nil_of_length_eq_zero hc;exact h
  | cons v vs ih =>
   intro pre cs suf X o h hp hc
   match cs with
   | [] => simp at hc
   | c :: cs =>
    rw [World.setCells];have h1 : (X.setCell ⟨b, o, none⟩ v).heap[b]? = some (.cells ((pre ++ [v]) ++ (cs ++ suf)).toArray 208) := by
     obtain ⟨hlt, hk⟩ := Array.getElem?_eq_some_iff.1 h;show (X.heap.modify b _)[b]? = _
     rw [Array.getElem?_eq_getElem (by rw [Array.size_modify]; exact hlt), Array.getElem_modify_self, hk];simp [hp.symm]
    have := ih (pre ++ [v]) cs suf _ (o + 1) h1 (by simp [hp]) (by simpa using hc);simpa using this
 refine ⟨_, hrun, ?_, fun k hk => far _ _ _ _ hk, siz _ _ _, fun B X hB hX => bel _ _ _ _ _ hB hX⟩;have := put (arV g) [] (arV f) [] W 0 (by simpa [ArAt] using h) rfl (by rw [xb3, xb3]);simpa [ArAt] using this
theorem new_any (f t : ByteArray) (hs : f.size <= 140737488355000) (w : World) :
  Calls Tryz.prog 120 #[.string f, .string t] w fun e w' => e = .returned (.tuple #[.agg (arV (newR f.data.toList t.data.toList).1).toArray, .int .i64 ((newR f.data.toList t.data.toList).2 : Nat)]) /\ Below w.heap.size w w' := by
 have hlf : f.data.toList.length = f.size := rfl;have hlt : t.data.toList.length = t.size := rfl;have hz := (zero_of_info inf31).1;have hbu : ∀ w, (Instr.build 208 #[]).run Tryz.prog w = .ok (.agg (arV fun _ => .int .u8 0).toArray) w := fun w => run_build w 208 #[] _ built31;have hA0 := Bal w (.cells (arV fun _ => .int .u8 0).toArray 208);have hN0 := ArAt.new w 208 (fun _ => .int .u8 0);obtain ⟨Z, hZ⟩ : ∃ Z, Z = (arV (fun _ => .int .u8 0)).toArray := ⟨_, rfl⟩;obtain ⟨W1, hst, hW1, -, -, hbel⟩ := xdw (g := fun _ => .int .u8 0) hN0 xhk hZ;have HT := hideT (fun W (h : ArAt W w.heap.size 208 (fun _ => .int .u8 0)) => xdw (g := fun _ => .int .u8 0) h xhk hZ);rw [<- hZ] at hA0 hz hbu hst hN0 hbel;have hZs : Z.size = 256 := by rw [hZ]; simp [xb3]
 have H0 := hideT (And.intro hN0 (And.intro hA0 (And.intro hW1 (hbel w.heap.size w qr hA0))));have HZ := hideT hZ;clear hN0 hA0 hZ hW1 hbel;by_cases h1 : f.size = t.size
 ·have e1 : ((f.size : Int) != (t.size : Int)) = false := by rw [bne_eq_false_iff_eq]; omega
  have HW := hideT (xip f hs);clear hst;cases hd : twB f.data.toList with
  | true =>
   have hR : newR f.data.toList t.data.toList = (fun _ => .int .u8 0, 21) := by unfold newR; rw [if_pos (.inr hd)]
   rw [hR];rw [hd] at HW;have HR := hideT hd;clear hd hR;go_enter Tryz.func120, Tryz.ntmps120
   go_wp2_with fail
   refine (HW.out _).mono ?_;rintro e w1 ⟨rfl, hb1⟩;have hN1 := H0.out.1.stay hb1;obtain ⟨W2, hst, hW2, -, -, hbel⟩ := HT.out w1 hN1;have HF := hideT (And.intro hW2 (hbel w.heap.size w qr (H0.out.2.1.trans (hb1.mono H0.out.2.1.size))));clear hN1 hb1 hW2 hbel;go_wp2;refine bodyPost_ret (xc8 rfl rfl HF.out.1) rfl ?_;exact ⟨rfl, HF.out.2⟩
  | false =>
   have hR : newR f.data.toList t.data.toList = (tabF f.data.toList t.data.toList, 0) := by unfold newR; rw [if_neg (by rw [hlf, hlt, hd]; simp [h1])]
   rw [hR];rw [hd] at HW;clear hd hR;go_enter Tryz.func120, Tryz.ntmps120
   go_wp2_with fail
   refine (HW.out _).mono ?_;rintro e w1 ⟨rfl, hb1⟩;have hN1 := H0.out.1.stay hb1;have hB1 := H0.out.2.1.trans (hb1.mono H0.out.2.1.size);have hA1 := Bal w1 (.cells (arV fun _ => .int .u8 0).toArray 208);have hN2 := ArAt.new w1 208 (fun _ => .int .u8 0);rw [<- HZ.out] at hA1 hN2;have H1 := hideT (And.intro (hN1.stay hA1) (And.intro (hB1.trans (hA1.mono hB1.size)) (And.intro hN2 (And.intro (show w.heap.size < w1.heap.size from hN1.lt) hA1))));clear hN1 hb1 hA1 hN2 hB1 hbu HT
   go_wp2_with fail
   go_loopw [19] (fun i wr => ∃ k : Nat, k <= 256 /\ i = .int .i64 k /\ ArAt wr w1.heap.size 208 (idF k) /\ ArAt wr w.heap.size 208 (fun _ => .int .u8 0) /\ Below w.heap.size w wr) (fun i _ => 256 - (intOf i).toNat)
   case atStart => exact ⟨0, by omega, rfl, by rw [id_zero]; exact H1.out.2.2.1, H1.out.1, H1.out.2.1⟩
   case round =>
    obtain ⟨k, hk, rfl, hT1, hT0, hB⟩ := hrel;clear hz;by_cases hlt2 : k < 256
    ·have i1 : (k : Int) < 256 := by omega
     have i2 : (0 : Int) <= (k : Int) := by omega
     have i3 : IntKind.u8.wrap (k : Int) = (k : Int) := by rw [IntKind.wrap_u8]; omega
     have hc := hT1.cell k hlt2;have hf := hT1.frozen k;have hS := hT1.set k (.int .u8 k);rw [id_next] at hS;have hne : w.heap.size ≠ w1.heap.size := by have := H1.out.2.2.2.1; omega
     have HR := hideT (And.intro hS (And.intro (show ArAt (wr.setCell ⟨w1.heap.size, k, none⟩ (.int .u8 k)) w.heap.size 208 _ from (put_far wr w1.heap.size k _ hne).trans hT0) (hB.setCell (p := ⟨w1.heap.size, k, none⟩) (by have := H1.out.2.2.2.1; show w.heap.size <= w1.heap.size; omega) (.int .u8 k))));clear hT1 hT0 hB hS hne;go_wp2;exact ⟨⟨k + 1, by omega, by go_num, HR.out.1, HR.out.2.1, HR.out.2.2⟩, by simp [intOf]; omega⟩
    ·obtain rfl : k = 256 := by omega
     have hT2 : ArAt wr w1.heap.size 208 (tabF [] []) := by
      unfold ArAt at hT1 ⊢;rw [<- id_full];exact hT1
     have HQ := hideT (And.intro hT2 (And.intro hT0 hB));clear hT1 hT0 hB hT2;have i1 : (((256 : Nat) : Int) < 256) = False := by simp
     go_wp2_with fail
     go_loopw [29] (fun i wx => ∃ k : Nat, k <= f.size /\ i = .int .i64 k /\ ArAt wx w1.heap.size 208 (tabF (f.data.toList.take k) (t.data.toList.take k)) /\ ArAt wx w.heap.size 208 (fun _ => .int .u8 0) /\ Below w.heap.size w wx) (fun i _ => f.size - (intOf i).toNat)
     case atStart => exact ⟨0, by omega, rfl, by simpa using HQ.out.1, HQ.out.2.1, HQ.out.2.2⟩
     case round =>
      obtain ⟨k, hk, rfl, hT1, hT0, hB⟩ := hrel;clear i1;by_cases hlt2 : k < f.size
      ·have hlt3 : k < t.size := by omega
       have i1 : (k : Int) < (f.size : Int) := by omega
       have i4 : (k : Int) < (t.size : Int) := by omega
       have i2 : (0 : Int) <= (k : Int) := by omega
       have hcl := (f[k]'hlt2).toNat_lt;have j1 : (0 : Int) <= ((f[k]'hlt2).toNat : Int) := by omega
       have j2 : ((f[k]'hlt2).toNat : Int) < 256 := by omega
       have hc := hT1.cell (f[k]'hlt2).toNat hcl;have hf := hT1.frozen (f[k]'hlt2).toNat;have hS := hT1.set (f[k]'hlt2).toNat (.int .u8 ((t[k]'hlt3).toNat : Nat));rw [tab_next _ _ _ _ (by rw [List.length_take, List.length_take, hlf, hlt, h1]), <- take_snocB f k hlt2, <- take_snocB t k hlt3] at hS;have hne : w.heap.size ≠ w1.heap.size := by have := H1.out.2.2.2.1; omega
       have HR := hideT (And.intro hS (And.intro (show ArAt (wr.setCell ⟨w1.heap.size, (f[k]'hlt2).toNat, none⟩ (.int .u8 ((t[k]'hlt3).toNat : Nat))) w.heap.size 208 _ from (put_far wr w1.heap.size (f[k]'hlt2).toNat _ hne).trans hT0) (hB.setCell (p := ⟨w1.heap.size, (f[k]'hlt2).toNat, none⟩) (by have := H1.out.2.2.2.1; show w.heap.size <= w1.heap.size; omega) (.int .u8 ((t[k]'hlt3).toNat : Nat)))));have HE := hideT h1;clear hT1 hT0 hB hS hne h1 hlf hlt;generalize tabF (f.data.toList.take k) (t.data.toList.take k) (f[k]'hlt2).toNat = vold at *
       go_wp2_with fail
       go_region
       have HR2 := hideT (And.intro (show ArAt ((wr.setCell ⟨w1.heap.size, (f[k]'hlt2).toNat, none⟩ (.int .u8 ((t[k]'hlt3).toNat : Nat))).drew) w1.heap.size 208 _ from HR.out.1) (And.intro (show ArAt ((wr.setCell ⟨w1.heap.size, (f[k]'hlt2).toNat, none⟩ (.int .u8 ((t[k]'hlt3).toNat : Nat))).drew) w.heap.size 208 _ from HR.out.2.1) HR.out.2.2.drew));go_wp2;exact ⟨⟨k + 1, by omega, by go_num, HR2.out.1, HR2.out.2.1, HR2.out.2.2⟩, by simp [intOf]; omega⟩
      ·have i1 : ((k : Int) < (f.size : Int)) = False := qg;have i4 : ((k : Int) < (t.size : Int)) = False := qg;have e1 : f.data.toList.take k = f.data.toList := List.take_of_length_le (by rw [hlf]; omega);have e2 : t.data.toList.take k = t.data.toList := List.take_of_length_le (by rw [hlt]; omega);rw [e1, e2] at hT1;have HL := hideT hT1;obtain ⟨A, hA⟩ : ∃ A, A = (arV (tabF f.data.toList t.data.toList)).toArray := ⟨_, rfl⟩;obtain ⟨W2, hst, hW2, -, -, hbel⟩ := xdw (g := tabF f.data.toList t.data.toList) hT0 (xoa _ _) hA;have HF := hideT (And.intro hW2 (hbel w.heap.size w qr hB));have hAs : A.size = 256 := by rw [hA]; simp [xb3]
       have HA := hideT hA;clear e1 e2 hT1 hT0 hB hW2 hbel hA hlf hlt h1
       go_wp2_with fail
       refine wp_load_mid 208 _ rfl w1.heap.size 0 rfl _ _ (range_block HL.out) und31 rfl (by rw [xlu, xb3]) ?_;rw [<- HA.out];go_wp2;obtain rfl := HA.out;refine bodyPost_ret (xc8 rfl rfl HF.out.1) rfl ?_;exact ⟨rfl, HF.out.2⟩
 ·have e1 : ((f.size : Int) != (t.size : Int)) = true := qb;have hR : newR f.data.toList t.data.toList = (fun _ => .int .u8 0, 21) := by unfold newR; rw [if_pos (.inl (by rw [hlf, hlt]; exact h1))]
  rw [hR];clear hR;go_enter Tryz.func120, Tryz.ntmps120;go_wp2;refine bodyPost_ret (xc8 rfl rfl H0.out.2.2.1) rfl ?_;exact ⟨rfl, H0.out.2.2.2⟩
def digB (b : Int) : Bool := decide (48 <= b) && decide (b <= 57)
def letB (b : Int) : Bool := (decide (97 <= b) && decide (b <= 122)) || (decide (65 <= b) && decide (b <= 90))
theorem isDigit_any (b : Int) (w : World) : Calls Tryz.prog 307 #[.int .u8 b] w fun e w' => e = .returned (.bool (digB b)) /\ w' = w := by
 unfold digB;by_cases h1 : 48 <= b
 ·go_enter Tryz.func307, Tryz.ntmps307;go_wp2;go_ret;exact ⟨by simp_all, rfl⟩
 ·have h1' : decide (48 <= b) = false := decide_eq_false h1;go_enter Tryz.func307, Tryz.ntmps307;go_wp2;go_ret;exact ⟨by simp_all, rfl⟩
theorem isLetter_any (b : Int) (w : World) : Calls Tryz.prog 306 #[.int .u8 b] w fun e w' => e = .returned (.bool (letB b)) /\ w' = w := by
 unfold letB;by_cases h1 : 97 <= b
 ·by_cases h2 : b <= 122
  ·exact bya0
  ·have h2' : decide (b <= 122) = false := decide_eq_false h2;have h4 : decide (b <= 90) = false := decide_eq_false (by omega);have h3 : decide (65 <= b) = true := decide_eq_true (by omega);exact bya0
 ·have h1' : decide (97 <= b) = false := decide_eq_false h1;by_cases h3 : 65 <= b
  ·exact bya0
  ·have h3' : decide (65 <= b) = false := decide_eq_false h3;exact bya0
theorem info24 : (Tryz.prog.info? 45).map (·.size) = some 2 := by kernel_rfl
theorem fault_result {fr : Nat × Nat} (hf : fn.results = #[.tmp t, .cell r 45]) (hr : tmps[r]?.getD undef = .pointer (some ⟨b, 0, none⟩)) (h : W.heap[b]? = some (.cells #[x, y] 45 fr)) : (results fn tmps).run Tryz.prog W = .ok (.tuple #[tmps.getD t undef, .agg #[x, y]]) W := by
 have := run_loadVar_mid (P := Tryz.prog) W b 0 45 [x, y] _ (range_block h) Tryz.underlying45 rfl (by rw [info24]; rfl);simp [results, hf, asAddr, hr, this]
theorem put2 (h : W.heap[b]? = some (.cells #[x, y] t (0, 0))) (u v : Value) : ((W.setCell ⟨b, 0, none⟩ u).setCell ⟨b, 1, none⟩ v).heap[b]? = some (.cells #[u, v] t (0, 0)) := by
 simp only [World.setCell, Array.getElem?_modify, if_true, h, Option.map_some];rfl
theorem aln_iff (c : UInt8) : alnB c ↔ (letB (c.toNat : Int) = true \/ digB (c.toNat : Int) = true) := by
 unfold alnB letB digB;simp only [Bool.or_eq_true, Bool.and_eq_true, decide_eq_true_eq];omega
def PcR (w : World) (s : ByteArray) (k : Nat) (l : List UInt8) (W : World) : Prop :=
 Lib.IsBuilder 79 5 (w.heap.size + 1) (w.heap.size + 1) (Lib.byteCells l) W /\ Below (w.heap.size + 1) (w.alloc (.cells #[.int .i64 0, .int .i64 0] 45)) W /\ pcR (s.data.toList.drop k) k l = pcR s.data.toList 0 [] /\ l.length <= k
theorem xob (s : ByteArray) (hs : s.size <= 140737488355000) (w : World) :
  Calls Tryz.prog 264 #[.string s] w fun e w' => e = .returned (.tuple #[.string (bst (xd7 s.data.toList).1), .agg #[.int .i64 ((xd7 s.data.toList).2.1 : Nat), .int .i64 ((xd7 s.data.toList).2.2 : Nat)]]) /\ Below w.heap.size w w' := by
 have hlen : s.data.toList.length = s.size := rfl;unfold xd7;generalize hR : pcR s.data.toList 0 [] = R;have HR := hideT hR;clear hR;have hA0 := Bal w (.cells #[.int .i64 0, .int .i64 0] 45);have hF := Lib.fresh_isBuilder 79 5 (w.alloc (.cells #[.int .i64 0, .int .i64 0] 45));have hB0 := (Below.refl (w.heap.size + 1) (w.alloc (.cells #[.int .i64 0, .int .i64 0] 45))).alloc (by simp) (.cells #[.pointer none, .slice none 0 0] 79);have hN0 := heap_alloc_new w (.cells #[.int .i64 0, .int .i64 0] 45);rw [World.size_alloc] at hF;have H0 := hideT (And.intro hA0 (And.intro hF (And.intro hB0 hN0)));clear hA0 hF hB0 hN0;go_enter Tryz.func264, Tryz.ntmps264
 go_wp2_with fail
 go_loopw [5] (fun i wr => ∃ (k : Nat) (l : List UInt8), k <= s.size /\ i = .int .i64 k /\ PcR w s k l wr) (fun i _ => s.size - (intOf i).toNat)
 case atStart => exact ⟨0, [], by omega, rfl, H0.out.2.1, H0.out.2.2.1, by simp, by simp⟩
 case round =>
  obtain ⟨k, l, hk, rfl, hb, hB, hrun, hl⟩ := hrel;have hcell : wr.heap[w.heap.size]? = some (.cells #[.int .i64 0, .int .i64 0] 45) := (hB.block _ (by omega)).trans H0.out.2.2.2;have hBw : Below w.heap.size w wr := H0.out.1.trans (hB.mono (by omega));have hfl : ∀ u v, Below w.heap.size w ((wr.setCell ⟨w.heap.size, 0, none⟩ u).setCell ⟨w.heap.size, 1, none⟩ v) := fun u v => (hBw.setCell (p := ⟨w.heap.size, 0, none⟩) qr u).setCell (p := ⟨w.heap.size, 1, none⟩) qr v;have c0 := clq 0 hcell rfl;have c1 := clq 1 hcell rfl;have f0 := fzq 0 hcell;have f1 := fzq 1 hcell;have HC := hideT (And.intro hcell (And.intro hfl hBw));have HW := hideT (show (Lib.byteCells l).length + 1 <= 140737488355328 by rw [Lib.byteCells_length]; omega);have HS := hideT (show w.heap.size + 1 <= wr.heap.size by have := hB.size; simpa using this);have HB := hideT (And.intro hb hB);clear hcell hfl hBw hb hB;by_cases hlt : k < s.size
  ·have i1 : (k : Int) < (s.size : Int) := by omega
   have i2 : (0 : Int) <= (k : Int) := by omega
   rw [drop_at s k hlt] at hrun;by_cases h1 : (s[k]'hlt).toNat = 92
   ·have e1 : (((s[k]'hlt).toNat : Int) != 92) = false := by rw [bne_eq_false_iff_eq]; omega
    by_cases h2 : k + 1 = s.size
    ·rw [show s.data.toList.drop (k + 1) = [] by rw [List.drop_eq_nil_iff, hlen]; omega, pc_end _ _ _ h1] at hrun;have e2 : ((k : Int) == (s.size : Int) - 1) = true := by rw [beq_iff_eq]; omega
     obtain rfl := hrun.trans HR.out;clear HR;exact bya1
    ·have hlt2 : k + 1 < s.size := by omega
     have e2 : ((k : Int) == (s.size : Int) - 1) = false := qn;have i5 : (k : Int) + 1 < (s.size : Int) := by omega
     have i6 : (0 : Int) <= (k : Int) + 1 := by omega
     rw [drop_at s (k + 1) hlt2] at hrun;have hcl := (s[k + 1]'hlt2).toNat_lt;by_cases h3 : (s[k + 1]'hlt2).toNat = 110
     ·rw [pc_n _ _ _ _ _ h1 h3] at hrun;have e3 : (((s[k + 1]'hlt2).toNat : Int) == 110) = true := by rw [beq_iff_eq]; omega
      have HU := hideT hrun;clear hrun c0 c1 f0 f1
      go_wp2_with fail
      refine (xb6 _ _ _ _ _ HB.out.1 HW.out HS.out).mono ?_;rintro e w1 ⟨rfl, h1, hb1, hk1⟩;have HF := hideT (And.intro h1 (HB.out.2.trans hb1));clear h1 hb1 hk1;go_wp2;refine ⟨⟨k + 2, l ++ [10], by omega, by go_num, .inr ?_, HF.out.2, HU.out, by simp; omega⟩, by simp [intOf]; omega⟩;rw [cells_app];exact HF.out.1
     ·have e3 : (((s[k + 1]'hlt2).toNat : Int) == 110) = false := qn;have hal := aln_iff (s[k + 1]'hlt2);have HL := hideT (isLetter_any ((s[k + 1]'hlt2).toNat : Int));have HD := hideT (isDigit_any ((s[k + 1]'hlt2).toNat : Int));cases hx : letB ((s[k + 1]'hlt2).toNat : Int) with
      | true =>
       rw [xn7 _ _ _ _ _ h1 h3 (hal.2 (.inl hx))] at hrun;rw [hx] at HL;obtain rfl := hrun.trans HR.out;clear HR hx hal
       go_wp2_with fail
       refine (HL.out _).mono ?_;rintro e w1 ⟨rfl, rfl⟩;exact bya1
      | false =>
       rw [hx] at HL;cases hy : digB ((s[k + 1]'hlt2).toNat : Int) with
       | true =>
        rw [xn7 _ _ _ _ _ h1 h3 (hal.2 (.inr hy))] at hrun;rw [hy] at HD;obtain rfl := hrun.trans HR.out;clear HR hx hy hal
        go_wp2_with fail
        refine (HL.out _).mono ?_;rintro e w1 ⟨rfl, rfl⟩
        go_wp2_with fail
        refine (HD.out _).mono ?_;rintro e w1 ⟨rfl, rfl⟩;exact bya1
       | false =>
        rw [pc_esc _ _ _ _ _ h1 h3 (fun h => by rcases hal.1 h with h | h <;> simp_all)] at hrun;rw [hy] at HD;have HU := hideT hrun;clear hrun hx hy hal c0 c1 f0 f1
        go_wp2_with fail
        refine (HL.out _).mono ?_;rintro e w1 ⟨rfl, rfl⟩
        go_wp2_with fail
        refine (HD.out _).mono ?_;rintro e w1 ⟨rfl, rfl⟩
        go_wp2_with fail
        refine (xb6 _ _ _ _ _ HB.out.1 HW.out HS.out).mono ?_;rintro e w1 ⟨rfl, h1, hb1, hk1⟩;have HF := hideT (And.intro h1 (HB.out.2.trans hb1));clear h1 hb1 hk1;go_wp2;refine ⟨⟨k + 2, l ++ [s[k + 1]'hlt2], by omega, by go_num, .inr ?_, HF.out.2, HU.out, by simp; omega⟩, by simp [intOf]; omega⟩;rw [cells_app];exact HF.out.1
   ·have e1 : (((s[k]'hlt).toNat : Int) != 92) = true := qb;rw [pc_pl _ _ _ _ h1] at hrun;have HU := hideT hrun;clear hrun c0 c1 f0 f1
    go_wp2_with fail
    refine (xb6 _ _ _ _ _ HB.out.1 HW.out HS.out).mono ?_;rintro e w1 ⟨rfl, h1, hb1, hk1⟩;have HF := hideT (And.intro h1 (HB.out.2.trans hb1));clear h1 hb1 hk1;go_wp2;refine ⟨⟨k + 1, l ++ [s[k]'hlt], by omega, by go_num, .inr ?_, HF.out.2, HU.out, by simp; omega⟩, by simp [intOf]; omega⟩;rw [cells_app];exact HF.out.1
  ·have i1 : ((k : Int) < (s.size : Int)) = False := qg;rw [show s.data.toList.drop k = [] by rw [List.drop_eq_nil_iff, hlen]; omega, pc_nil] at hrun;obtain rfl := hrun.trans HR.out;clear HR c0 c1 f0 f1
   go_wp2_with fail
   refine (xcv _ _ _ _ HB.out.1 HS.out).mono ?_;rintro e w1 ⟨rfl, hb1⟩;have hcell : w1.heap[w.heap.size]? = some (.cells #[.int .i64 0, .int .i64 0] 45) := (hb1.block _ (by omega)).trans HC.out.1;have hBw := HC.out.2.2.trans (hb1.mono (by omega));have HX := hideT (And.intro hcell ((hBw.setCell (p := ⟨w.heap.size, 0, none⟩) qr (.int .i64 0)).setCell (p := ⟨w.heap.size, 1, none⟩) qr (.int .i64 0)));have c0 := clq 0 hcell rfl;have c1 := clq 1 hcell rfl;have f0 := fzq 0 hcell;have f1 := fzq 1 hcell;clear hcell hBw hb1;go_wp2;refine bodyPost_ret (fault_result rfl rfl (put2 HX.out.1 _ _)) rfl ?_;exact ⟨rfl, HX.out.2⟩
end ytb
end Go.Proofs.YtcpokkpjeeblnaaGreatDoor
