/- script: isQuiet. -/
import Derived.Test.YtcpokkpjeeblnaaGreatDoorKBa
import Derived.Test.YtcpokkpjeeblnaaGreatDoorKXw
import Derived.LaidEql
import Derived.Stop.Asserts
import Derived.RowKitTokens
import Derived.Recover
import Derived.Defers
set_option maxRecDepth 100000
set_option maxHeartbeats 4000000
namespace Go.Proofs.YtcpokkpjeeblnaaGreatDoor
open Go.RowKit
open scanP scrP tpl ytb
theorem idx_ln : ∀ l : List UInt8, Lib.index l [10] = if lnN l = l.length then -1 else (lnN l : Int)
 | [] => rfl
 | b :: l => by
  have ih := idx_ln l;have hle := xhg l;rw [Lib.index, lnN];by_cases h : b = 10
  ·subst h;rw [if_pos (by rfl), if_pos rfl, if_neg (by simp)];rfl
  ·rw [if_neg (by
    rw [List.isPrefixOf, Bool.and_eq_true];rintro ⟨h1, _⟩;exact h (beq_iff_eq.1 h1).symm), if_neg h, ih, List.length_cons]
   by_cases h2 : lnN l = l.length
   ·rw [if_pos h2, if_pos (by rfl), if_pos (by omega)]
   ·rw [if_neg h2, if_neg (by simp), if_neg (by omega)];simp
theorem cut_ln (l : List UInt8) : (Lib.cut l [10]).1 = l.take (lnN l) := by
 have hi := idx_ln l;have hle := xhg l;unfold Lib.cut;by_cases h : lnN l = l.length
 ·rw [if_pos h] at hi;rw [hi, if_neg (by omega), h, List.take_length]
 ·rw [if_neg h] at hi;rw [hi, if_pos (by omega), Int.toNat_natCast]
theorem xoy (s : ByteArray) (hs : s.size <= 4096) (w : World) (hg : Gl w) : Calls Tryz.prog 61 #[.string s] w fun e w' => e = .returned (.bool (quiB s.data.toList)) /\ ∃ n, w' = w.drewN n := by
 obtain ⟨m, hm⟩ := hg.1;have HC := hideT (Tryz.strings_Cut s ⟨#[10]⟩ m w (by omega) hm);have hq : ((Lib.cut s.data.toList (⟨#[10]⟩ : ByteArray).data.toList).1 == [35, 110]) = quiB s.data.toList := by
  show ((Lib.cut s.data.toList [10]).1 == [35, 110]) = _
  rw [cut_ln];unfold quiB;by_cases h : s.data.toList.take (lnN s.data.toList) = [35, 110] <;> simp [h]
 have HQ := hideT hq;clear hq hm hg;generalize Lib.cut s.data.toList (⟨#[10]⟩ : ByteArray).data.toList = q at *;obtain ⟨q1, q2, q3⟩ := q;go_enter Tryz.func61, Tryz.ntmps61
 go_wp2_with fail
 refine HC.out.mono ?_;rintro e w1 ⟨rfl, n, rfl⟩;go_wp2;go_ret;exact ⟨by rw [<- HQ.out]; rfl, n, rfl⟩
end Go.Proofs.YtcpokkpjeeblnaaGreatDoor
namespace Go.Proofs.YtcpokkpjeeblnaaGreatDoor
open Go.RowKit Go.Extern.Stop Go.Stop Go.Extern
open scanP scrP tpl ytb
namespace asf
theorem xoz (t : Addr) (w : World) : (ReflectliteValue.unpack (.iface 129 (.pointer (some t)))).run Tryz.prog w
  = .ok (.agg #[.pointer (some ⟨7, 129, none⟩), .pointer (some ⟨w.heap.size, 0, none⟩), .int .u64 150]) (w.alloc (.cells #[.pointer (some t)] 129)) := by kernel_rfl
theorem type55 (a : Addr) (w : World) : (ReflectliteValue.methodAny (ReflectliteValue.valueError "reflectlite.Value.Type" 0) (fun t _ _ _ => ReflectliteType.toType t) #[.agg #[.pointer (some ⟨7, 129, none⟩), .pointer (some a), .int .u64 150]]).run Tryz.prog w
  = .ok (.iface 220 (.agg #[.pointer (some ⟨7, 129, none⟩)])) w := by kernel_rfl
theorem kind55 (w : World) : ((ReflectliteType.abiMethod fun t => (fun a : Nat => Value.int IntKind.u8 (a : Int)) <$> Rtype.kind t) #[.pointer (some ⟨7, 129, none⟩)]).run Tryz.prog w = .ok (.int .u8 22) w := by kernel_rfl
theorem kind53 (w : World) : ((ReflectliteType.abiMethod fun t => (fun a : Nat => Value.int IntKind.u8 (a : Int)) <$> Rtype.kind t) #[.pointer (some ⟨7, 127, none⟩)]).run Tryz.prog w = .ok (.int .u8 25) w := by kernel_rfl
theorem elem55 (w : World) : (ReflectliteType.method ReflectliteType.elem #[.agg #[.pointer (some ⟨7, 129, none⟩)]]).run Tryz.prog w = .ok (.iface 220 (.agg #[.pointer (some ⟨7, 127, none⟩)])) w := by kernel_rfl
theorem xix (w : World) : (ReflectliteType.relation "Implements" ReflectliteType.implements_ #[.agg #[.pointer (some ⟨7, 127, none⟩)], .iface 220 (.agg #[.pointer (some ⟨7, 125, none⟩)])]).run Tryz.prog w = .ok (.bool true) w := by kernel_rfl
theorem typeOf53 (v : Value) (w : World) : (ReflectliteType.typeOf #[.iface 127 v]).run Tryz.prog w = .ok (.iface 220 (.agg #[.pointer (some ⟨7, 127, none⟩)])) w := by kernel_rfl
theorem xiy (w : World) : (ReflectliteType.relation "AssignableTo" ReflectliteType.assignableTo #[.agg #[.pointer (some ⟨7, 127, none⟩)], .iface 220 (.agg #[.pointer (some ⟨7, 127, none⟩)])]).run Tryz.prog w = .ok (.bool true) w := by kernel_rfl
theorem xo0 (e p : Int) (w : World) : (ReflectliteValue.unpack (.iface 127 (.agg #[.int .i64 e, .int .i64 p]))).run Tryz.prog w
  = .ok (.agg #[.pointer (some ⟨7, 127, none⟩), .pointer (some ⟨w.heap.size, 0, none⟩), .int .u64 153]) (w.alloc (.cells #[.int .i64 e, .int .i64 p] 127)) := by kernel_rfl
theorem xo1 (a : Addr) (w : World) : (ReflectliteValue.parts (.agg #[.pointer (some ⟨7, 129, none⟩), .pointer (some a), .int .u64 150])).run Tryz.prog w = .ok (some (129, a, 150)) w := by kernel_rfl
theorem elemOf55 (w : World) : (Rtype.elem? 129).run Tryz.prog w = .ok (some 127) w := by kernel_rfl
theorem mk53 (p : Addr) (w : World) : (ReflectliteValue.mk 127 p ReflectliteValue.flagAddr).run Tryz.prog w = .ok (.agg #[.pointer (some ⟨7, 127, none⟩), .pointer (some p), .int .u64 409]) w := by kernel_rfl
theorem parts53a (a : Addr) (w : World) : (ReflectliteValue.parts (.agg #[.pointer (some ⟨7, 127, none⟩), .pointer (some a), .int .u64 409])).run Tryz.prog w = .ok (some (127, a, 409)) w := by kernel_rfl
theorem parts53 (a : Addr) (w : World) : (ReflectliteValue.parts (.agg #[.pointer (some ⟨7, 127, none⟩), .pointer (some a), .int .u64 153])).run Tryz.prog w = .ok (some (127, a, 153)) w := by kernel_rfl
theorem direct53 (w : World) : (Rtype.directlyAssignable 127 127).run Tryz.prog w = .ok true w := by kernel_rfl
theorem rlm (z : Sem Value) (f : TypeId -> Addr -> Nat -> Nat -> Sem Value) (v : Value) :
  ReflectliteValue.method z f #[v] = (do match <- ReflectliteValue.parts v with | none => z | some (t, a, fl) => f t a fl (fl % 32)) := rfl
theorem isNil55 (a p : Addr) (W : World) (ha : W.cell? a = some (.pointer (some p))) :
  (ReflectliteValue.method (ReflectliteValue.valueError "reflectlite.Value.IsNil" 0) ReflectliteValue.isNil #[.agg #[.pointer (some ⟨7, 129, none⟩), .pointer (some a), .int .u64 150]]).run Tryz.prog W = .ok (.bool false) W := by
 rw [rlm];simp only [Sem.run_bind, xo1, Result.andThen];simp [ReflectliteValue.isNil, loadVar, isAgg, underlying, Tryz.underlying129, ha, Result.andThen]
theorem elemV55 (a p : Addr) (W : World) (ha : W.cell? a = some (.pointer (some p))) :
  (ReflectliteValue.method (ReflectliteValue.valueError "reflectlite.Value.Elem" 0) ReflectliteValue.elem #[.agg #[.pointer (some ⟨7, 129, none⟩), .pointer (some a), .int .u64 150]]).run Tryz.prog W
   = .ok (.agg #[.pointer (some ⟨7, 127, none⟩), .pointer (some p), .int .u64 409]) W := by
 rw [rlm];simp only [Sem.run_bind, xo1, Result.andThen];simp [ReflectliteValue.elem, loadVar, isAgg, underlying, Tryz.underlying129, ha, Result.andThen, elemOf55, mk53]
theorem xm7 (h : Value) (w : World) : (Go.method 639 220 (.agg #[h]) "Kind").run Tryz.prog w = .ok (369, h) w := by kernel_rfl
theorem xm8 (h : Value) (w : World) : (Go.method 639 220 (.agg #[h]) "Elem").run Tryz.prog w = .ok (379, .agg #[h]) w := by kernel_rfl
theorem xfh (h : Value) (w : World) : (Go.method 639 220 (.agg #[h]) "Implements").run Tryz.prog w = .ok (380, .agg #[h]) w := by kernel_rfl
theorem xd9 (h : Value) (w : World) : (Go.method 639 220 (.agg #[h]) "AssignableTo").run Tryz.prog w = .ok (377, .agg #[h]) w := by kernel_rfl
theorem rls (v x : Value) : ReflectliteValue.set #[v, x] = (do
  let (some (dst, a, fl), some (src, b, _)) := (<- ReflectliteValue.parts v, <- ReflectliteValue.parts x)
   | unsupported (.noEntry "extern/(internal/reflectlite.Value).Set.zeroValue")
  if fl / ReflectliteValue.flagAddr % 2 == 0 then unsupported (.noEntry "extern/(internal/reflectlite.Value).Set.unaddressable")
  let val <- loadVar src b
  if <- Rtype.directlyAssignable dst src then storeVar dst a val
  else if <- Rtype.implements dst src then
   if (<- Rtype.kind src) == 20 then
    match val with
    | .nilIface => unsupported (.noEntry "extern/reflectlite: a nil value of one interface type handed on as a value of another")
    | _ => storeVar dst a val
   else storeVar dst a (.iface src val)
  else panicString ("reflectlite.Set: value of type " ++ (<- Rtype.spelt src) ++ " is not assignable to type " ++ (<- Rtype.spelt dst))
  pure (.tuple #[])) := rfl
theorem info53 : (Tryz.prog.info? 127).map (·.size) = some 2 := by kernel_rfl
theorem set53 (t n : Nat) (e p : Int) (x y : Value) (W : World) (hn : W.heap[n]? = some (.cells #[.int .i64 e, .int .i64 p] 127)) (ht : W.heap[t]? = some (.cells #[x, y] 127)) :
  (ReflectliteValue.set #[.agg #[.pointer (some ⟨7, 127, none⟩), .pointer (some ⟨t, 0, none⟩), .int .u64 409], .agg #[.pointer (some ⟨7, 127, none⟩), .pointer (some ⟨n, 0, none⟩), .int .u64 153]]).run Tryz.prog W
   = .ok (.tuple #[]) ((W.setCell ⟨t, 0, none⟩ (.int .i64 e)).setCell ⟨t, 1, none⟩ (.int .i64 p)) := by
 have hl := run_loadVar_mid (P := Tryz.prog) W n 0 127 [.int .i64 e, .int .i64 p] _ (range_block hn) Tryz.underlying127 rfl (by rw [info53]; rfl);have t0 := clq 0 ht rfl;have t1 : (W.setCell ⟨t, 0, none⟩ (.int .i64 e)).cell? ⟨t, 1, none⟩ = some y := by rw [World.cell?_setCell_other _ _ _ _ (by simp)]; simp [World.cell?, ht]
 have z0 := fzq 0 ht;have z1 : (W.setCell ⟨t, 0, none⟩ (.int .i64 e)).frozen? ⟨t, 1, none⟩ = false := by simp [World.frozen?, World.setCell, Array.getElem?_modify, ht]
 rw [rls];simp only [Sem.run_bind, parts53a, parts53, Result.andThen];simp [ReflectliteValue.flagAddr, hl, Result.andThen, direct53, storeVar, Value.cells, storeCells, Addr.add];rw [run_store Tryz.prog W ⟨t, 0, none⟩ _ _ (by rfl)];simp only [t0, z0, Bool.false_eq_true, if_false];rw [run_store Tryz.prog _ ⟨t, 1, none⟩ _ _ (by rfl)];simp only [t1, z1, Bool.false_eq_true, if_false]
end asf
open asf
theorem as28 (e p : Int) (t a : Nat) (x y : Value) (w : World) (ha : w.heap[a]? = some (.cells #[.pointer (some ⟨t, 0, none⟩)] 129)) (ht : w.heap[t]? = some (.cells #[x, y] 127)) :
  Calls Tryz.prog 92 #[.iface 127 (.agg #[.int .i64 e, .int .i64 p]), .iface 129 (.pointer (some ⟨t, 0, none⟩)), .agg #[.pointer (some ⟨7, 129, none⟩), .pointer (some ⟨a, 0, none⟩), .int .u64 150], .iface 220 (.agg #[.pointer (some ⟨7, 127, none⟩)])] w fun ev w' => ev = .returned (.bool true) /\ w'.heap[t]? = some (.cells #[.int .i64 e, .int .i64 p] 127) /\ Tch (· = t) w w' := by
 have h25 := @run_callFunc_extern Tryz.prog 89 _ (fun args => ReflectliteValue.unpack (args.getD 0 (.tuple #[]))) Tryz.func89 (by kernel_rfl) (by kernel_rfl) (by kernel_rfl) (by kernel_rfl);have h37 := @run_callFunc_extern Tryz.prog 129 _ ReflectliteType.typeOf Tryz.func129 (by kernel_rfl) (by kernel_rfl) (by kernel_rfl) (by kernel_rfl);have h308 := @run_callFunc_extern Tryz.prog 377 _ (ReflectliteType.relation "AssignableTo" ReflectliteType.assignableTo) Tryz.func377 (by kernel_rfl) (by kernel_rfl) (by kernel_rfl) (by kernel_rfl);have h38 := @run_callFunc_extern Tryz.prog 130 _ (ReflectliteValue.method (ReflectliteValue.valueError "reflectlite.Value.Elem" 0) ReflectliteValue.elem) Tryz.func130 (by kernel_rfl) (by kernel_rfl) (by kernel_rfl) (by kernel_rfl);have h39 := @run_callFunc_extern Tryz.prog 131 _ ReflectliteValue.set Tryz.func131 (by kernel_rfl) (by kernel_rfl) (by kernel_rfl) (by kernel_rfl);have tO := typeOf53;have mA := xd9;have a53 := xiy;have v53 := xo0;have hA1 := Bal w (.cells #[.pointer (some ⟨7, 129, none⟩), .pointer (some ⟨a, 0, none⟩), .int .u64 150] 166);have ha1 := (hA1.block a (xah ha)).trans ha;have ht1 := (hA1.block t (xah ht)).trans ht;have hA2 := (Below.refl (w.alloc (.cells #[.pointer (some ⟨7, 129, none⟩), .pointer (some ⟨a, 0, none⟩), .int .u64 150] 166)).heap.size (w.alloc (.cells #[.pointer (some ⟨7, 129, none⟩), .pointer (some ⟨a, 0, none⟩), .int .u64 150] 166))).alloc qr (.cells #[.int .i64 e, .int .i64 p] 127);have ht2 := (hA2.block t (xah ht1)).trans ht1;have el := elemV55 ⟨a, 0, none⟩ ⟨t, 0, none⟩ (w.alloc (.cells #[.pointer (some ⟨7, 129, none⟩), .pointer (some ⟨a, 0, none⟩), .int .u64 150] 166)) (by simp only [World.cell?, ha1]; rfl)
 have hn2 := heap_alloc_new (w.alloc (.cells #[.pointer (some ⟨7, 129, none⟩), .pointer (some ⟨a, 0, none⟩), .int .u64 150] 166)) (.cells #[.int .i64 e, .int .i64 p] 127);have st := set53 t _ e p x y _ hn2 ht2;have HT := hideT (And.intro ht2 (Tch.of (F := (· = t)) (hA1.trans (hA2.mono hA1.size))));have e1 : (w.alloc (.cells #[.pointer (some ⟨7, 129, none⟩), .pointer (some ⟨a, 0, none⟩), .int .u64 150] 166)).heap.size = w.heap.size + 1 := by simp
 rw [e1] at st;clear ha ht hA1 ha1 ht1 hA2 ht2 hn2 e1;go_enter Tryz.func92, Tryz.ntmps92;go_wp2;refine wp_loop_rounds 1 ?_;rw [rounds_succ];go_wp2;go_ret;exact ⟨rfl, ytb.put2 HT.out.1 _ _, (HT.out.2.put1 _ _).put1 _ _⟩
theorem as_hit (e p : Int) (t : Nat) (x y : Value) (w : World) (ht : w.heap[t]? = some (.cells #[x, y] 127)) (hg : w.cell? ⟨0, 0, none⟩ = some (.iface 220 (.agg #[.pointer (some ⟨7, 125, none⟩)]))) :
  Calls Tryz.prog 59 #[.iface 127 (.agg #[.int .i64 e, .int .i64 p]), .iface 129 (.pointer (some ⟨t, 0, none⟩))] w fun ev w' => ev = .returned (.bool true) /\ w'.heap[t]? = some (.cells #[.int .i64 e, .int .i64 p] 127) /\ Tch (· = t) w w' := by
 have h25 := @run_callFunc_extern Tryz.prog 89 _ (fun args => ReflectliteValue.unpack (args.getD 0 (.tuple #[]))) Tryz.func89 (by kernel_rfl) (by kernel_rfl) (by kernel_rfl) (by kernel_rfl);have h26 := @run_callFunc_extern Tryz.prog 90 _ (ReflectliteValue.methodAny (ReflectliteValue.valueError "reflectlite.Value.Type" 0) (fun t _ _ _ => ReflectliteType.toType t)) Tryz.func90 (by kernel_rfl) (by kernel_rfl) (by kernel_rfl) (by kernel_rfl);have h27 := @run_callFunc_extern Tryz.prog 91 _ (ReflectliteValue.method (ReflectliteValue.valueError "reflectlite.Value.IsNil" 0) ReflectliteValue.isNil) Tryz.func91 (by kernel_rfl) (by kernel_rfl) (by kernel_rfl) (by kernel_rfl);have h300 := @run_callFunc_extern Tryz.prog 369 _ (ReflectliteType.abiMethod fun t => do pure (.int .u8 (<- Rtype.kind t))) Tryz.func369 (by kernel_rfl) (by kernel_rfl) (by kernel_rfl) (by kernel_rfl);have h310 := @run_callFunc_extern Tryz.prog 379 _ (ReflectliteType.method ReflectliteType.elem) Tryz.func379 (by kernel_rfl) (by kernel_rfl) (by kernel_rfl) (by kernel_rfl);have h311 := @run_callFunc_extern Tryz.prog 380 _ (ReflectliteType.relation "Implements" ReflectliteType.implements_) Tryz.func380 (by kernel_rfl) (by kernel_rfl) (by kernel_rfl) (by kernel_rfl);have f25 := xoz;have f26 := type55;have mK := xm7;have mE := xm8;have mI := xfh;have k55 := kind55;have k53 := kind53;have e55 := elem55;have i53 := xix;have n27 := isNil55 ⟨w.heap.size, 0, none⟩ ⟨t, 0, none⟩ ((w.alloc (.cells #[.pointer (some ⟨t, 0, none⟩)] 129)).alloc (.cells #[.pointer (some ⟨7, 129, none⟩), .pointer (some ⟨w.heap.size, 0, none⟩), .int .u64 150] 166)) (by simp);have hlt : 0 < w.heap.size := World.block_lt_of_cell? w _ hg
 have hg2 : ((w.alloc (.cells #[.pointer (some ⟨t, 0, none⟩)] 129)).alloc (.cells #[.pointer (some ⟨7, 129, none⟩), .pointer (some ⟨w.heap.size, 0, none⟩), .int .u64 150] 166)).cell? ⟨0, 0, none⟩ = some (.iface 220 (.agg #[.pointer (some ⟨7, 125, none⟩)])) := by
  rw [World.cell?_alloc_lt _ _ ⟨0, 0, none⟩ (by simp), World.cell?_alloc_lt _ _ ⟨0, 0, none⟩ hlt]; exact hg
 have hA1 := Bal w (.cells #[.pointer (some ⟨t, 0, none⟩)] 129);have hN1 := heap_alloc_new w (.cells #[.pointer (some ⟨t, 0, none⟩)] 129);have hA2 := (Below.refl (w.alloc (.cells #[.pointer (some ⟨t, 0, none⟩)] 129)).heap.size (w.alloc (.cells #[.pointer (some ⟨t, 0, none⟩)] 129))).alloc qr (.cells #[.pointer (some ⟨7, 129, none⟩), .pointer (some ⟨w.heap.size, 0, none⟩), .int .u64 150] 166);have HA := hideT ((hA2.block _ (xah hN1)).trans hN1);have HB := hideT ((hA2.block t (xah ((hA1.block t (xah ht)).trans ht))).trans ((hA1.block t (xah ht)).trans ht));have HT := hideT (Tch.of (F := (· = t)) (hA1.trans (hA2.mono hA1.size)));clear hA1 hN1 hA2 ht;go_enter Tryz.func59, Tryz.ntmps59
 go_wp2_with fail
 refine (as28 e p t w.heap.size x y _ HA.out HB.out).mono ?_;rintro ev w1 ⟨rfl, h1, h2⟩;have H1 := hideT h1;have H2 := hideT (HT.out.more h2);clear h1 h2;go_wp2;go_ret;exact ⟨rfl, H1.out, H2.out⟩
end Go.Proofs.YtcpokkpjeeblnaaGreatDoor
namespace Go.Proofs.YtcpokkpjeeblnaaGreatDoor
open Go.RowKit Go.Extern.Stop Go.Stop Go.Extern
open scanP scrP tpl ytb
structure Res (W : World) (c q f : Nat) (v : Value) (b : Bool) (e p : Nat) : Prop where
 hc : W.heap[c]? = some (.cells #[v] 87)
 hq : W.heap[q]? = some (.cells #[.bool b] 4)
 hf : W.heap[f]? = some (.cells #[.int .i64 e, .int .i64 p] 45)
 cq : c ≠ q
 cf : c ≠ f
 qf : q ≠ f
variable {W : World} {b : Bool} {c f e p : Nat}
theorem put1c {b t : Nat} {x : Value} (h : W.heap[b]? = some (.cells #[x] t (0, 0))) (u : Value) : (W.setCell ⟨b, 0, none⟩ u).heap[b]? = some (.cells #[u] t (0, 0)) := by
 simp only [World.setCell, Array.getElem?_modify, if_true, h, Option.map_some];rfl
theorem Res.put {q : Nat} {v : Value} (h : Res W c q f v b e p) (v' : Value) (b' : Bool) (e' p' : Nat) : Res ((((W.setCell ⟨c, 0, none⟩ v').setCell ⟨q, 0, none⟩ (.bool b')).setCell ⟨f, 0, none⟩ (.int .i64 e')).setCell ⟨f, 1, none⟩ (.int .i64 p')) c q f v' b' e' p' := by
 refine ⟨?_, ?_, ?_, h.cq, h.cf, h.qf⟩
 ·rw [put_far _ f 1 _ h.cf, put_far _ f 0 _ h.cf, put_far _ q 0 _ h.cq];exact put1c h.hc _
 ·rw [put_far _ f 1 _ h.qf, put_far _ f 0 _ h.qf];exact put1c ((put_far _ c 0 _ h.cq.symm).trans h.hq) _
 ·exact ytb.put2 ((put_far _ q 0 _ h.qf.symm).trans ((put_far _ c 0 _ h.cf.symm).trans h.hf)) _ _
theorem ta_nil (w : World) : (Instr.typeAssert .nilIface 20 125 true).run Tryz.prog w = .ok (.tuple #[.nilIface, .bool false]) w := by kernel_rfl
theorem ta_gv (v : Value) (w : World) : (Instr.typeAssert (.iface 127 v) 20 125 true).run Tryz.prog w = .ok (.tuple #[.iface 127 v, .bool true]) w := run_typeAssert_hasB Tryz.underlying125 (by kernel_rfl) v 20 w
theorem xm9 (c q f : Nat) (w : World) :
  CallsD Tryz.prog 58 #[.pointer (some ⟨c, 0, none⟩), .pointer (some ⟨q, 0, none⟩), .pointer (some ⟨f, 0, none⟩)] .returning w fun e u' w' => e = .returned (.tuple #[]) /\ u' = .returning /\ w' = w := by
 refine callsD_of_wpS Tryz.func58 rfl fun c₀ cs hu => ?_;change Code.wpS _ _ _ { tmps := #[.pointer (some ⟨c, 0, none⟩), .pointer (some ⟨q, 0, none⟩), .pointer (some ⟨f, 0, none⟩), undef, undef, undef, undef, undef, undef, undef, undef, undef, undef, undef, undef, undef], defers := [] } _ _;have tn := ta_nil;apply wpS_seq;apply wpS_region;simp [wpOpsS, go_sem, recoverD, hu, tn, Exit.thenS];refine wpS_of_wp ?_;go_wp2;cases c₀
 simp_all [bodyPostS, results, Tryz.results58]
theorem xf9 (c q f : Nat) (v : Value) (b : Bool) (e0 p0 e p : Nat) (older : List PanicEntry) (w : World) (h : Res w c q f v b e0 p0) (hg : Gl w) :
  CallsD Tryz.prog 58 #[.pointer (some ⟨c, 0, none⟩), .pointer (some ⟨q, 0, none⟩), .pointer (some ⟨f, 0, none⟩)] (.panicking ({ v := gvV e p, recovered := false } :: older)) w fun x u' w' => x = .returned (.tuple #[]) /\ u' = .panicking ({ v := gvV e p, recovered := true } :: older) /\ Res w' c q f (.slice none 0 0) false e p /\ Tch (fun k => k = c \/ k = q \/ k = f) w w' := by
 refine callsD_of_wpS Tryz.func58 rfl fun c₀ cs hu => ?_;change Code.wpS _ _ _ { tmps := #[.pointer (some ⟨c, 0, none⟩), .pointer (some ⟨q, 0, none⟩), .pointer (some ⟨f, 0, none⟩), undef, undef, undef, undef, undef, undef, undef, undef, undef, undef, undef, undef, undef], defers := [] } _ _;have tg := ta_gv;unfold gvV at hu ⊢;apply wpS_seq;apply wpS_region;simp [wpOpsS, go_sem, recoverD, hu, tg, Exit.thenS];refine wpS_of_wp ?_;have hA := Bal w (.cells #[.int .i64 0, .int .i64 0] 127);have hN := heap_alloc_new w (.cells #[.int .i64 0, .int .i64 0] 127);have hlc := xah h.hc;have hlq := xah h.hq;have hlf := xah h.hf;have HA := hideT (as_hit (e : Nat) (p : Nat) w.heap.size _ _ _ hN (hg.stay (Tch.of (F := fun _ => False) hA) (fun _ h => h.elim)).2);have T0 := hideT (Tch.of (F := fun _ => False) hA);clear hA hN hg
 go_wp2_with fail
 refine HA.out.mono ?_;rintro x w1 ⟨rfl, h1, h2⟩;have T1 := T0.out.trans h2 (fun j hj => .inr (by omega));have R1 : Res w1 c q f v b e0 p0 := ⟨(T1.block c hlc (fun h => h)).trans h.hc, (T1.block q hlq (fun h => h)).trans h.hq, (T1.block f hlf (fun h => h)).trans h.hf, h.cq, h.cf, h.qf⟩;have TT := hideT (T1.mono (G := fun k => k = c \/ k = q \/ k = f) (fun _ h => h.elim));have RR := hideT R1;have m0 := clq 0 h1 rfl;have m1 := clq 1 h1 rfl;have c0 := clq 0 R1.hc rfl;have q0 := clq 0 R1.hq rfl;have f0 := clq 0 R1.hf rfl;have f1 := clq 1 R1.hf rfl;have zc := fzq 0 R1.hc;have zq := fzq 0 R1.hq;have zf0 := fzq 0 R1.hf;have zf1 := fzq 1 R1.hf;have n1 : ¬ c = q := R1.cq;have n2 : ¬ c = f := R1.cf;have n3 : ¬ q = f := R1.qf;clear h1 h2 T1 R1 HA T0 h hlc hlq hlf;go_wp2;have FR := RR.out.put (.slice none 0 0) false e p;have FT := (((TT.out.put (b := c) (.inl rfl) 0 (.slice none 0 0)).put (b := q) (.inr (.inl rfl)) 0 (.bool false)).put (b := f) (.inr (.inr rfl)) 0 (.int .i64 e)).put (b := f) (.inr (.inr rfl)) 1 (.int .i64 p);generalize (((w1.setCell ⟨c, 0, none⟩ (.slice none 0 0)).setCell ⟨q, 0, none⟩ (.bool false)).setCell ⟨f, 0, none⟩ (.int .i64 e)).setCell ⟨f, 1, none⟩ (.int .i64 p) = W9 at *;clear TT RR m0 m1 c0 q0 f0 f1 zc zq zf0 zf1;simp [bodyPostS, results, Tryz.results58, go_sem];exact ⟨FR, FT⟩
theorem LsAt.less {B B' : Nat} {v : Value} {L : List (Co × Value)} (h : LsAt W B' v L) (hB : B <= B') : LsAt W B v L := ⟨owns_mono h.own hB, fun x hx => owns_mono (h.pa x hx) hB⟩
def PP (G : Gr) (s : ByteArray) (w : World) (e : Ending) (w' : World) : Prop := ∃ v L, e = .returned (.tuple #[v, .bool (scrR G s.data.toList).2.1, .agg #[.int .i64 ((scrR G s.data.toList).2.2.1 : Nat), .int .i64 ((scrR G s.data.toList).2.2.2 : Nat)]]) /\ LsAt w' w.heap.size v L /\ L.map (·.1) = (scrR G s.data.toList).1 /\ Below w.heap.size w w'
theorem infoF : (Tryz.prog.info? 45).map (·.size) = some 2 := by kernel_rfl
theorem xda {fn : Func} {q : Nat} {v : Value} {tmps : Array Value} (hf : fn.results = #[.cell 2 87, .cell 3 4, .cell 4 45]) (h2 : tmps[2]?.getD undef = .pointer (some ⟨c, 0, none⟩)) (h3 : tmps[3]?.getD undef = .pointer (some ⟨q, 0, none⟩)) (h4 : tmps[4]?.getD undef = .pointer (some ⟨f, 0, none⟩)) (h : Res W c q f v b e p) : (results fn tmps).run Tryz.prog W = .ok (.tuple #[v, .bool b, .agg #[.int .i64 e, .int .i64 p]]) W := by
 have h5 := run_loadVar_mid (P := Tryz.prog) W f 0 45 [.int .i64 e, .int .i64 p] _ (range_block h.hf) Tryz.underlying45 rfl (by rw [infoF]; rfl);have c0 := clq 0 h.hc rfl;have q0 := clq 0 h.hq rfl;have l22 : (loadVar 87 ⟨c, 0, none⟩).run Tryz.prog W = .ok v W := by simp [loadVar, isAgg, underlying, Tryz.underlying87, c0]
 have l4 : (loadVar 4 ⟨q, 0, none⟩).run Tryz.prog W = .ok (.bool b) W := by simp [loadVar, isAgg, underlying, Tryz.underlying4, q0]
 simp [results, hf, asAddr, h2, h3, h4, h5, l22, l4]
theorem xiz (w : World) (o1 o2 o3 : Obj) : Below w.heap.size w (((w.alloc o1).alloc o2).alloc o3) /\ (((w.alloc o1).alloc o2).alloc o3).heap[w.heap.size]? = some o1 /\ (((w.alloc o1).alloc o2).alloc o3).heap[w.heap.size + 1]? = some o2 /\ (((w.alloc o1).alloc o2).alloc o3).heap[w.heap.size + 2]? = some o3 /\ (((w.alloc o1).alloc o2).alloc o3).heap.size = w.heap.size + 3 := by
 have e1 : (w.alloc o1).heap.size = w.heap.size + 1 := by simp
 have e2 : ((w.alloc o1).alloc o2).heap.size = w.heap.size + 2 := by simp
 have hA := Bal w o1;have hB := (Below.refl (w.alloc o1).heap.size (w.alloc o1)).alloc qr o2;have hC := (Below.refl ((w.alloc o1).alloc o2).heap.size ((w.alloc o1).alloc o2)).alloc qr o3;refine ⟨(hA.trans (hB.mono hA.size)).trans (hC.mono (by rw [e2]; omega)), ?_, ?_, ?_, by simp⟩
 ·exact (hC.block _ (by rw [e2]; omega)).trans ((hB.block _ (by rw [e1]; omega)).trans (heap_alloc_new w o1))
 ·refine (hC.block _ (by rw [e2]; omega)).trans ?_;rw [<- e1];exact heap_alloc_new _ _
 ·rw [<- e2];exact heap_alloc_new _ _
theorem parse_any {G : Gr} (hG : xf2 G) (hTb : xop) (s : ByteArray) (hs : s.size <= 140737488355000) (w : World) (hg : Gl w) : Calls Tryz.prog 40 #[.string s] w (PP G s w) := by
 have hmf : ∀ (fn : Fn) (first cap : Array Value) (w : World), (Instr.makeFunc fn first cap).run Tryz.prog w = .ok (.func fn first cap) w := fun _ _ _ _ => rfl;obtain ⟨hB, n0, n1, n2, hSz⟩ := xiz w (.cells #[.slice none 0 0] 87) (.cells #[.bool false] 4) (.cells #[.int .i64 0, .int .i64 0] 45);have RS : Res (((w.alloc (.cells #[.slice none 0 0] 87)).alloc (.cells #[.bool false] 4)).alloc (.cells #[.int .i64 0, .int .i64 0] 45)) w.heap.size (w.heap.size + 1) (w.heap.size + 2) (.slice none 0 0) false 0 0 := ⟨n0, n1, n2, by omega, by omega, by omega⟩;have HB := hideT hB;have HRS := hideT RS;have HSZ := hideT hSz;have HGL := hideT (hg.stay (Tch.of (F := fun _ => False) hB) (fun _ h => h.elim));have hgl := hg.lt;have HQ := hideT hG;have HTB := hideT hTb;clear hB n0 n1 n2 hSz hg hG hTb RS;by_cases hlen : 4096 < s.size
 ·have k1 : (4096 : Int) < (s.size : Int) := by omega
  have HP : PP G s w = fun e w' => ∃ v L, e = .returned (.tuple #[v, .bool false, .agg #[.int .i64 13, .int .i64 0]]) /\ LsAt w' w.heap.size v L /\ L.map (·.1) = [] /\ Below w.heap.size w w' := by
   funext e w';unfold PP scrR;rw [if_pos (show 4096 < s.data.toList.length from hlen)];rfl
  rw [HP];clear HP
  go_enter_defers Tryz.func40, Tryz.ntmps40
  go_wp2;obtain ⟨hB, n0, n1, n2, hSz⟩ := xiz w (.cells #[.slice none 0 0] 87) (.cells #[.bool false] 4) (.cells #[.int .i64 13, .int .i64 0] 45);have RS : Res (((w.alloc (.cells #[.slice none 0 0] 87)).alloc (.cells #[.bool false] 4)).alloc (.cells #[.int .i64 13, .int .i64 0] 45)) w.heap.size (w.heap.size + 1) (w.heap.size + 2) (.slice none 0 0) false 13 0 := ⟨n0, n1, n2, by omega, by omega, by omega⟩;exact ⟨_, xda rfl rfl rfl rfl RS, _, [], rfl, xox _ _, rfl, hB⟩
 ·have k1 : ((4096 : Int) < (s.size : Int)) = False := qg;have hs2 : s.size <= 4096 := by omega
  go_enter_defers Tryz.func40, Tryz.ntmps40
  go_wp2_with fail
  rw [show w.heap.size + 1 + 1 = w.heap.size + 2 from rfl, show w.heap.size + 2 + 1 = w.heap.size + 3 from rfl];generalize ((w.alloc (.cells #[.slice none 0 0] 87)).alloc (.cells #[.bool false] 4)).alloc (.cells #[.int .i64 0, .int .i64 0] 45) = Y at *;have hAb := Bal Y (.cells #[.string s, .int .i64 0] 131);have RB : RAt (Y.alloc (.cells #[.string s, .int .i64 0] 131)) (w.heap.size + 3) s 0 := by rw [<- HSZ.out]; exact heap_alloc_new _ _
  have RS := HRS.out;have RS2 : Res (Y.alloc (.cells #[.string s, .int .i64 0] 131)) w.heap.size (w.heap.size + 1) (w.heap.size + 2) (.slice none 0 0) false 0 0 := ⟨(hAb.block _ (xah RS.hc)).trans RS.hc, (hAb.block _ (xah RS.hq)).trans RS.hq, (hAb.block _ (xah RS.hf)).trans RS.hf, RS.cq, RS.cf, RS.qf⟩;have GL2 := hideT (HGL.out.stay (Tch.of (F := fun _ => False) hAb) (fun _ h => h.elim));have B2 := hideT (HB.out.trans (hAb.mono HB.out.size));have sz2 : (Y.alloc (.cells #[.string s, .int .i64 0] 131)).heap.size = w.heap.size + 4 := by simp [HSZ.out]
  have SZ2 := hideT sz2;have HR2 := hideT RS2;have HRB := hideT RB;clear hAb RB RS RS2 sz2 HRS HGL HB HSZ;generalize Y.alloc (.cells #[.string s, .int .i64 0] 131) = Z at *;refine (xiw HQ.out HTB.out (s.data.toList.length + 1) Z HRB.out (Nat.zero_le _) hs2 GL2.out (by omega) (by show s.size < 0 + (s.size + 1); omega)).mono ?_;intro e w1 hp;rcases hd : allR G s.data.toList (s.data.toList.length + 1) 0 [] with x | cs
  ·rw [hd] at hp;obtain ⟨rfl, ht⟩ := hp;have R1 : Res w1 w.heap.size (w.heap.size + 1) (w.heap.size + 2) (.slice none 0 0) false 0 0 := ⟨(ht.block _ (xah HR2.out.hc) (by omega)).trans HR2.out.hc, (ht.block _ (xah HR2.out.hq) (by omega)).trans HR2.out.hq, (ht.block _ (xah HR2.out.hf) (by omega)).trans HR2.out.hf, by omega, by omega, by omega⟩;have GL3 := GL2.out.stay ht (fun k e => by subst e; omega);have B3 := B2.out.trans (ht.below (B := w.heap.size) (fun k e => by omega) (by rw [SZ2.out]; omega));have K1 := hideT (And.intro R1 (And.intro GL3 B3));clear ht R1 GL3 B3;have HS := hideT (show scrR G s.data.toList = ([], false, x.1, x.2) by unfold scrR; rw [if_neg (show ¬ 4096 < s.data.toList.length from hlen), hd]);clear hd;go_wp2;refine leaves_cons (f := 58) (args := #[.pointer (some ⟨w.heap.size, 0, none⟩), .pointer (some ⟨w.heap.size + 1, 0, none⟩), .pointer (some ⟨w.heap.size + 2, 0, none⟩)]) (by simp) (by simp [go_sem]) ?_;refine (xf9 _ _ _ _ _ _ _ x.1 x.2 [] w1 K1.out.1 K1.out.2.1).mono ?_;rintro e u' w2 ⟨rfl, rfl, hR, hT⟩;refine ⟨_, xda rfl rfl rfl rfl hR, ?_⟩;unfold PP;rw [HS.out];exact ⟨_, [], rfl, xox _ _, rfl, K1.out.2.2.trans (hT.below (B := w.heap.size) (fun k e => by omega) K1.out.2.2.size)⟩
  ·rw [hd] at hp;obtain ⟨v, L, rfl, hL, hm, ht⟩ := hp;have R1 : Res w1 w.heap.size (w.heap.size + 1) (w.heap.size + 2) (.slice none 0 0) false 0 0 := ⟨(ht.block _ (xah HR2.out.hc) (by omega)).trans HR2.out.hc, (ht.block _ (xah HR2.out.hq) (by omega)).trans HR2.out.hq, (ht.block _ (xah HR2.out.hf) (by omega)).trans HR2.out.hf, by omega, by omega, by omega⟩;have GL3 := hideT (GL2.out.stay ht (fun k e => by subst e; omega));have B3 := hideT (B2.out.trans (ht.below (B := w.heap.size) (fun k e => by omega) (by rw [SZ2.out]; omega)));have HR3 := hideT R1;have HL3 := hideT hL;have HS := hideT (show scrR G s.data.toList = (cs, quiB s.data.toList, 0, 0) by unfold scrR; rw [if_neg (show ¬ 4096 < s.data.toList.length from hlen), hd]);have HM := hideT hm;obtain ⟨va, vc, hv⟩ := owns_shape hL.own;subst hv;clear ht R1 hL hd hm
   go_wp2_with fail
   refine (xoy s hs2 w1 GL3.out).mono ?_;rintro e w2 ⟨rfl, m, rfl⟩;have HR4 : Hid (Res (w1.drewN m) w.heap.size (w.heap.size + 1) (w.heap.size + 2) (.slice none 0 0) false 0 0) := hideT ⟨HR3.out.hc, HR3.out.hq, HR3.out.hf, HR3.out.cq, HR3.out.cf, HR3.out.qf⟩;have B4 := hideT (B3.out.trans (below_drewN w.heap.size w1 m));have HL4 := hideT ((HL3.out.stay (Tch.drewN (fun _ => False) w1 m) (fun _ h => h.elim)).less (B := w.heap.size + 3) (by rw [SZ2.out]; omega));clear HR3 B3 HL3;generalize w1.drewN m = W4 at *;have c0 := clq 0 HR4.out.hc rfl;have q0 := clq 0 HR4.out.hq rfl;have f0 := clq 0 HR4.out.hf rfl;have f1 := clq 1 HR4.out.hf rfl;have zc := fzq 0 HR4.out.hc;have zq := fzq 0 HR4.out.hq;have zf0 := fzq 0 HR4.out.hf;have zf1 := fzq 1 HR4.out.hf;go_wp2;refine leaves_cons (f := 58) (args := #[.pointer (some ⟨w.heap.size, 0, none⟩), .pointer (some ⟨w.heap.size + 1, 0, none⟩), .pointer (some ⟨w.heap.size + 2, 0, none⟩)]) (by simp) (by simp [go_sem]) ?_;refine (xm9 _ _ _ _).mono ?_;rintro e u' w3 ⟨rfl, rfl, rfl⟩;have FR := HR4.out.put (.slice va L.length vc) (quiB s.data.toList) 0 0;have FT := (((Tch.refl (fun k => k = w.heap.size \/ k = w.heap.size + 1 \/ k = w.heap.size + 2) W4).put (b := w.heap.size) (.inl rfl) 0 (.slice va L.length vc)).put (b := w.heap.size + 1) (.inr (.inl rfl)) 0 (.bool (quiB s.data.toList))).put (b := w.heap.size + 2) (.inr (.inr rfl)) 0 (.int .i64 ((0 : Nat) : Int)) |>.put (b := w.heap.size + 2) (.inr (.inr rfl)) 1 (.int .i64 ((0 : Nat) : Int));refine ⟨_, xda rfl rfl rfl rfl FR, ?_⟩;unfold PP;rw [HS.out];exact ⟨_, L, rfl, (HL4.out.stay FT (fun k e => by omega)).less (by omega), HM.out, B4.out.trans (FT.below (B := w.heap.size) (fun k e => by omega) B4.out.size)⟩
end Go.Proofs.YtcpokkpjeeblnaaGreatDoor
