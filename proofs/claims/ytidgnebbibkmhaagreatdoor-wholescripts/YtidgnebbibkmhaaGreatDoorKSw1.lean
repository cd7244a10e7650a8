/- How a command is written, what Parse guarantees of one, and that what is written reads back. -/
import Derived.Test.YtidgnebbibkmhaaGreatDoorKBa
import Derived.Test.YtidgnebbibkmhaaGreatDoorKXw1
import Derived.Lib.ItoaNum
set_option maxRecDepth 100000
set_option maxHeartbeats 4000000
namespace Go.Proofs.YtidgnebbibkmhaaGreatDoor
open Go.RowKit
open scanP scrP tpl ytb
theorem bsw10 {P : Prop} (h : P := by
 split at h
 ·cases h
 ·have := flg_wf n h; exact ⟨this.re, this.ps, this.nt, this.fl⟩) : P := h
namespace sho
def frB (d : UInt8) (ts : List (List UInt8)) : Bool := ts.all fun t => !t.contains d
def dlF (ts : List (List UInt8)) : Nat -> Nat -> Option UInt8
 | 0, _ => none
 | n + 1, b => if b ≠ 92 /\ frB (UInt8.ofNat b) ts = true then some (UInt8.ofNat b) else dlF ts n (b + 1)
def dlm (ts : List (List UInt8)) : Option UInt8 := if frB 47 ts = true then some 47 else dlF ts 94 33
def bws (d : UInt8) : List (List UInt8) -> List UInt8
 | [] => []
 | t :: r => t ++ d :: bws d r
def btw (ts : List (List UInt8)) : Option (List UInt8) := match dlm ts with
 | none => none
 | some d => some (d :: bws d ts)
def adW (a : Adr) : Option (List UInt8) :=
 if a.k = 1 then some (Lib.decDigits a.ln)
 else if a.k = 2 then some [36]
 else if a.k = 3 then (match btw [a.re] with
  | none => none
  | some t => some ((if frB 47 [a.re] = true then [] else [92]) ++ t))
 else some []
def eN (nl : List UInt8) : List UInt8 -> List UInt8
 | [] => []
 | b :: r => (if b = 92 then [92, 92] else if b = 10 then nl else [b]) ++ eN nl r
def trN (t : List UInt8) : List UInt8 := if t.getLast? = some 10 then t.dropLast else t
def woW (t : List UInt8) : List UInt8 := if t = [] then [] else 32 :: t
def flW (c : Co) : List UInt8 := (if c.nh = 1 then [] else Lib.decDigits c.nh) ++ ((if c.an = true then [103] else []) ++ ((if c.pr = true then [112] else []) ++ (if c.fl = [] then [] else 119 :: woW c.fl)))
def psW (ps : List Pt) : List UInt8 := (tpl.textR ps []).getD []
def rsW (c : Co) : Option (List UInt8) :=
 if c.nm = 97 \/ c.nm = 105 \/ c.nm = 99 then some (92 :: 10 :: eN [92, 10] (trN c.tx))
 else if c.nm = 58 \/ c.nm = 98 \/ c.nm = 116 then some (woW c.lb)
 else if c.nm = 114 \/ c.nm = 119 then some (woW c.fl)
 else if c.nm = 115 then (btw [c.re, psW c.ps]).map (· ++ flW c)
 else if c.nm = 121 then btw [eN [92, 110] c.fr, eN [92, 110] c.to]
 else some []
def abW (c : Co) : Option (List UInt8) := if c.b.k = 0 then some [] else (adW c.b).map (44 :: ·)
def ntW (c : Co) : List UInt8 := if c.nt = true then [33] else []
def cmW (c : Co) : Option (List UInt8) := match adW c.a, abW c, rsW c with
 | some x, some y, some z => some (x ++ (y ++ (ntW c ++ c.nm :: (z ++ [10]))))
 | _, _, _ => none
def alW : List Co -> List UInt8 -> Except Nat (List UInt8)
 | [], l => .ok l
 | c :: r, l => match cmW c with
  | none => .error c.pl
  | some t => alW r (l ++ t)
def shR (G : Gr) (l : List UInt8) : List UInt8 × Nat × Nat :=
 if (scrR G l).2.2.1 ≠ 0 then ([], (scrR G l).2.2.1, (scrR G l).2.2.2)
 else match alW (scrR G l).1 (if (scrR G l).2.1 = true then [35, 110, 10] else []) with
  | .error p => ([], 5, p)
  | .ok t => (t, 0, 0)
def pcB (ln : Bool) : List UInt8 -> Bool
 | [] => true
 | [b] => decide (b ≠ 10) && decide (b ≠ 92)
 | b :: c :: r => if b = 92 then (decide (c ≠ 10) || ln) && pcB ln r else decide (b ≠ 10) && pcB ln (c :: r)
variable {b : UInt8} {l r x : List UInt8} {i p : Nat} {ln : Bool}
theorem pc_one (ln : Bool) (h1 : b ≠ 10) (h2 : b ≠ 92) (t : List UInt8) : pcB ln (b :: t) = pcB ln t := by
 cases t <;> simp [pcB, h1, h2]
theorem pc_two (ln : Bool) {c : UInt8} (h : c ≠ 10 \/ ln = true) (t : List UInt8) : pcB ln (92 :: c :: t) = pcB ln t := by
 rcases h with h | h <;> simp [pcB, h]
theorem un_pc (d : UInt8) (hd : d ≠ 10 /\ d ≠ 92) (ln : Bool) : ∀ (l : List UInt8) (p : Nat) (t : List UInt8), (unR d ln l p t).2.2 = 0 -> ∃ x, (unR d ln l p t).1 = t ++ x /\ pcB ln x = true
 | [], p, t, h => by simp [unR] at h
 | [b], p, t, h => by
  unfold unR at h ⊢;split at h
  ·rename_i hb; rw [if_pos hb]; exact ⟨[], by simp, rfl⟩
  ·simp at h
 | b :: c :: r, p, t, h => by
  unfold unR at h ⊢;by_cases h1 : b = d
  ·rw [if_pos h1]; exact ⟨[], by simp, rfl⟩
  rw [if_neg h1] at h ⊢;by_cases h2 : b = 10
  ·rw [if_pos h2] at h; simp at h
  rw [if_neg h2] at h ⊢;by_cases h3 : b ≠ 92
  ·rw [if_pos h3] at h ⊢;obtain ⟨x, e, hx⟩ := un_pc d hd ln (c :: r) _ _ h;exact ⟨b :: x, by rw [e]; simp, by rw [pc_one ln h2 h3]; exact hx⟩
  rw [if_neg h3] at h ⊢;by_cases h4 : c = 10 /\ ln = false
  ·rw [if_pos h4] at h; simp at h
  rw [if_neg h4] at h ⊢;have h5 : c ≠ 10 \/ ln = true := by
   cases ln
   ·exact .inl fun e => h4 ⟨e, rfl⟩
   ·exact .inr rfl
  obtain ⟨x, e, hx⟩ := un_pc d hd ln r _ _ h;cases hk : xgp d c
  ·have hc : c = d := by
    unfold xgp at hk;simp only [Bool.or_eq_false_iff, decide_eq_false_iff_not, Decidable.not_not] at hk;exact hk.1.1.1.1.1.1
   rw [hk] at e;refine ⟨c :: x, by rw [e]; simp, ?_⟩;rw [pc_one ln (by rw [hc]; exact hd.1) (by rw [hc]; exact hd.2)];exact hx
  ·rw [hk] at e;exact ⟨92 :: c :: x, by rw [e]; simp, by rw [pc_two ln h5]; exact hx⟩
theorem un_back (d : UInt8) (hd : d ≠ 10 /\ d ≠ 92) (ln : Bool) (r : List UInt8) : ∀ (x : List UInt8) (p : Nat) (t : List UInt8), pcB ln x = true -> x.contains d = false -> unR d ln (x ++ d :: r) p t = (t ++ x, p + x.length + 1, 0)
 | [], p, t, _, _ => by cases r <;> simp [unR]
 | [b], p, t, h, hn => by
  simp only [pcB, Bool.and_eq_true, decide_eq_true_eq] at h;have hb : b ≠ d := by simp at hn; exact fun e => hn e.symm
  show unR d ln (b :: d :: r) p t = _
  rw [unR, if_neg hb, if_neg h.1, if_pos h.2];have := un_back d hd ln r [] (p + 1) (t ++ [b]) rfl rfl;rw [List.nil_append] at this;rw [this]; simp
 | b :: c :: q, p, t, h, hn => by
  have hn' : b ≠ d /\ c ≠ d /\ q.contains d = false := by
   simp at hn ⊢;exact ⟨fun e => hn.1 e.symm, fun e => hn.2.1 e.symm, hn.2.2⟩
  show unR d ln (b :: c :: (q ++ d :: r)) p t = _
  by_cases h3 : b = 92
  ·subst h3;simp only [pcB, if_true, Bool.and_eq_true, Bool.or_eq_true, decide_eq_true_eq] at h;rw [unR, if_neg hn'.1, if_neg (by decide), if_neg (by simp), if_neg (by intro e; rcases h.1 with h1 | h1; exact h1 e.1; rw [h1] at e; cases e.2)];have hk : xgp d c = true := by unfold xgp; simp [hn'.2.1]
   rw [hk, un_back d hd ln r q _ _ h.2 hn'.2.2];simp; omega
  ·rw [pcB, if_neg h3, Bool.and_eq_true, decide_eq_true_eq] at h;rw [unR, if_neg hn'.1, if_neg h.1, if_pos h3];have := un_back d hd ln r (c :: q) (p + 1) (t ++ [b]) h.2 (by simp; exact ⟨fun e => hn'.2.1 e.symm, by simpa using hn'.2.2⟩);rw [List.cons_append] at this;rw [this]; simp; omega
theorem get_of (h : l.drop i = b :: r) : l[i]? = some b := by
 have := congrArg (·[0]?) h;simpa using this
theorem drop_of (h : l.drop i = x ++ r) : l.drop (i + x.length) = r := by
 rw [<- List.drop_drop, h, List.drop_left]
theorem le_of (h : l.drop i = b :: r) : i < l.length := (List.getElem?_eq_some_iff.1 (get_of h)).1
theorem drop_one (h : l.drop i = b :: r) : l.drop (i + 1) = r := drop_of (x := [b]) h
theorem mt_of {S : List UInt8} (h : l.drop i = b :: r) : mtB l i S = S.contains b := by unfold mtB; rw [get_of h]
theorem bl_of (h : l.drop i = b :: r) (hb : b ≠ 32 /\ b ≠ 9) : xab l i = i := by
 unfold xab; rw [h]; simp [blkN, hb.1, hb.2]
theorem pie_of {d : UInt8} (h : l.drop i = x ++ d :: r) (hd : d ≠ 10 /\ d ≠ 92) (hx : pcB ln x = true) (hn : x.contains d = false) : pieR l i d ln p = .ok (x, i + x.length + 1) := by
 have hi : i <= l.length := by
  rcases Nat.lt_or_ge l.length i with h1 | h1
  ·rw [List.drop_of_length_le (Nat.le_of_lt h1)] at h; simp at h
  ·exact h1
 have e : xau l i d ln = (x, i + x.length + 1, 0) := by
  unfold xau;rw [if_neg (by simp only [hd.1, hd.2, or_false]; omega), Int.toNat_natCast, h, un_back d hd ln r x i [] hx hn, List.nil_append]
 unfold pieR;rw [e]; rfl
theorem pie_pc {k : Nat} {d : UInt8} (h : pieR l i d ln p = .ok (x, k)) : pcB ln x = true := by
 unfold pieR at h;split at h
 ·rename_i h0;cases h;unfold xau at h0 ⊢;by_cases hc : (i : Int) < 0 \/ (l.length : Int) < i \/ d = 10 \/ d = 92
  ·rw [if_pos hc] at h0; simp at h0
  ·rw [if_neg hc] at h0 ⊢;obtain ⟨y, e, hy⟩ := un_pc d ⟨fun e => hc (.inr (.inr (.inl e))), fun e => hc (.inr (.inr (.inr e)))⟩ ln _ _ _ h0;rw [e, List.nil_append]; exact hy
 ·cases h
theorem del_of {e : Nat} {d : UInt8} (h : l.drop i = d :: r) (hd : d ≠ 10 /\ d ≠ 92) : delR l i e p = .ok (d, i + 1) := by
 unfold delR; rw [get_of h]; simp [hd.1, hd.2]
theorem dlF_ok (ts : List (List UInt8)) : ∀ (n b : Nat) (d : UInt8), 33 <= b -> b + n <= 256 -> dlF ts n b = some d -> (d ≠ 10 /\ d ≠ 92) /\ frB d ts = true
 | 0, b, d, _, _, h => by cases h
 | n + 1, b, d, h1, h2, h => by
  unfold dlF at h;split at h
  ·rename_i hc;cases h;have e : (UInt8.ofNat b).toNat = b := Nat.mod_eq_of_lt (by omega);refine ⟨⟨fun e' => ?_, fun e' => ?_⟩, hc.2⟩
   ·rw [e'] at e; have : b = 10 := e.symm; omega
   ·rw [e'] at e; have : b = 92 := e.symm; exact hc.1 this
  ·exact dlF_ok ts n (b + 1) d (by omega) (by omega) h
theorem dlm_ok {ts : List (List UInt8)} {d : UInt8} (h : dlm ts = some d) : (d ≠ 10 /\ d ≠ 92) /\ ∀ t ∈ ts, t.contains d = false := by
 have h2 : (d ≠ 10 /\ d ≠ 92) /\ frB d ts = true := by
  unfold dlm at h;split at h
  ·rename_i hf; cases h; exact ⟨by decide, hf⟩
  ·exact dlF_ok ts 94 33 d (by omega) (by omega) h
 refine ⟨h2.1, fun t ht => ?_⟩;have := List.all_eq_true.1 h2.2 t ht;simpa using this
theorem dec_dg : ∀ n : Nat, ∀ b ∈ Lib.decDigits n, isDg b = true := by
 intro n;have key : ∀ m : Nat, m < 10 -> isDg (UInt8.ofNat (48 + m)) = true := fun m hm => by
  have e : (UInt8.ofNat (48 + m)).toNat = 48 + m := Nat.mod_eq_of_lt (by omega);unfold isDg; rw [e]; simp; omega
 induction n using Nat.strongRecOn with
 | _ n ih =>
  intro b hb;rw [Lib.decDigits] at hb;split at hb
  ·rw [List.mem_singleton] at hb; rw [hb]; exact key _ ‹_›
  ·rw [List.mem_append, List.mem_singleton] at hb;rcases hb with hb | hb
   ·exact ih (n / 10) (by omega) b hb
   ·rw [hb]; exact key _ (by omega)
theorem dec_val : ∀ n : Nat, dgV (Lib.decDigits n) = n := by
 intro n;induction n using Nat.strongRecOn with
 | _ n ih =>
  rw [Lib.decDigits];split
  ·have e : (UInt8.ofNat (48 + n)).toNat = 48 + n := Nat.mod_eq_of_lt (by omega);simp only [dgV, List.foldl_cons, List.foldl_nil, e]; omega
  ·have e : (UInt8.ofNat (48 + n % 10)).toNat = 48 + n % 10 := Nat.mod_eq_of_lt (by omega);have h1 := ih (n / 10) (by omega);unfold dgV at h1 ⊢;rw [List.foldl_append, h1];simp only [List.foldl_cons, List.foldl_nil, e]; omega
theorem dec_len : ∀ (k n : Nat), n < 10 ^ (k + 1) -> (Lib.decDigits n).length <= k + 1
 | 0, n, h => by rw [Lib.decDigits, dif_pos (by simpa using h)]; simp
 | k + 1, n, h => by
  rw [Lib.decDigits];split
  ·simp
  ·have := dec_len k (n / 10) (by rw [Nat.pow_succ] at h; omega);rw [List.length_append, List.length_singleton]; omega
theorem dec_ne (n : Nat) : ∃ b t, Lib.decDigits n = b :: t := by
 rw [Lib.decDigits];split
 ·exact ⟨_, _, rfl⟩
 ·cases Lib.decDigits (n / 10) <;> exact ⟨_, _, rfl⟩
theorem dgN_of (hr : dgN r = 0) : ∀ x : List UInt8, (∀ b ∈ x, isDg b = true) -> dgN (x ++ r) = x.length
 | [], _ => hr
 | b :: x, h => by
  rw [List.cons_append, dgN, if_pos (h b List.mem_cons_self), dgN_of hr x (fun c hc => h c (List.mem_cons_of_mem _ hc))]; rfl
theorem num_of {n : Nat} (h : l.drop i = Lib.decDigits n ++ r) (hr : dgN r = 0) (hn : n < 1000000000) : numR l i = (n, i + (Lib.decDigits n).length, 0) := by
 unfold numR;rw [h, dgN_of hr _ (dec_dg n)];have h1 := dec_len 8 n (by omega);have h2 : 0 < (Lib.decDigits n).length := by obtain ⟨b, t, e⟩ := dec_ne n; rw [e]; simp
 simp only;rw [if_neg (by omega), if_neg (by omega), List.take_left, dec_val]
theorem num_lt (l : List UInt8) (i : Nat) : (numR l i).1 < 1000000000 := by
 have key : ∀ (x : List UInt8) (n : Nat), (∀ b ∈ x, isDg b = true) -> x.foldl (fun n b => 10 * n + (b.toNat - 48)) n < (n + 1) * 10 ^ x.length := by
  intro x;induction x with
  | nil => intro n _; simp
  | cons b x ih =>
   intro n hx;have h1 := ih (10 * n + (b.toNat - 48)) fun c hc => hx c (List.mem_cons_of_mem _ hc);have h2 := hx b List.mem_cons_self;unfold isDg at h2;simp only [Bool.and_eq_true, decide_eq_true_eq] at h2;rw [List.foldl_cons, List.length_cons, Nat.pow_succ, Nat.mul_comm (10 ^ _) 10, <- Nat.mul_assoc];exact Nat.lt_of_lt_of_le h1 (Nat.mul_le_mul_right _ (by omega))
 have dgs : ∀ x : List UInt8, ∀ b ∈ x.take (dgN x), isDg b = true := by
  intro x;induction x with
  | nil => intro b hb; simp at hb
  | cons c x ih =>
   intro b hb;unfold dgN at hb;split at hb
   ·rename_i hc;rw [List.take_succ_cons, List.mem_cons] at hb;rcases hb with rfl | hb
    ·exact hc
    ·exact ih b hb
   ·simp at hb
 unfold numR;simp only;split
 ·decide
 ·split
  ·decide
  ·rename_i h1 h2;have h3 := key _ 0 (dgs (l.drop i));rw [Nat.zero_add, Nat.one_mul] at h3;have h4 : ((l.drop i).take (dgN (l.drop i))).length <= 9 := by rw [List.length_take]; omega
   exact Nat.lt_of_lt_of_le h3 (Nat.le_trans (Nat.pow_le_pow_right (by decide) h4) (by decide))
end sho
end Go.Proofs.YtidgnebbibkmhaaGreatDoor
namespace Go.Proofs.YtidgnebbibkmhaaGreatDoor
open Go.RowKit
open scanP scrP tpl ytb
namespace sho
theorem text_bad (p : Pt) (r : List Pt) (l : List UInt8) (h : p.g < -1 \/ 9 < p.g) : tpl.textR (p :: r) l = none := by
 rw [tpl.textR, if_pos (by unfold badT; exact decide_eq_true h)]
theorem text_ok (p : Pt) (r : List Pt) (l : List UInt8) (h : ¬ (p.g < -1 \/ 9 < p.g)) : tpl.textR (p :: r) l = tpl.textR r (l ++ oneT p) := by
 rw [tpl.textR, if_neg (by unfold badT; rw [decide_eq_true_eq]; exact h)]
def gaO (x : Ga) (p : Pt) : Ga := if p.g = -1 then ⟨x.ps, x.bs ++ p.t.data.toList⟩ else x.group p.g
def gaL (x : Ga) (l : List Pt) : Ga := l.foldl gaO x
theorem u8_eq {b : UInt8} {n : Nat} (hn : n < 256) (h : b.toNat = n) : b = UInt8.ofNat n := by
 apply UInt8.toNat_inj.1;rw [h];have : (UInt8.ofNat n).toNat = n % 256 := rfl;omega
theorem esc_run : ∀ (t rest : List UInt8) (k : Nat) (x : Ga), ∃ k', runP (escL t ++ rest) k x = runP rest k' ⟨x.ps, x.bs ++ t⟩
 | [], rest, k, x => ⟨k, by rw [escL, List.nil_append, List.append_nil]⟩
 | b :: r, rest, k, x => by
  have step : ∀ k1, ∃ k', runP (escL r ++ rest) k1 (x.plain b) = runP rest k' ⟨x.ps, x.bs ++ b :: r⟩ := fun k1 => by
   obtain ⟨k', h⟩ := esc_run r rest k1 (x.plain b);refine ⟨k', ?_⟩;rw [h];simp [Ga.plain]
  rw [escL];by_cases c1 : b.toNat = 10
  ·rw [if_pos c1];have e : x.esc 110 = x.plain b := by
    rw [u8_eq (by omega) c1];rfl
   obtain ⟨k', h⟩ := step (k + 2);refine ⟨k', ?_⟩;rw [show ([92, 110] ++ escL r ++ rest) = 92 :: 110 :: (escL r ++ rest) by simp, xl2 _ _ _ _ _ (by decide), e];exact h
  ·rw [if_neg c1];by_cases c2 : b.toNat = 92 \/ b.toNat = 38
   ·rw [if_pos c2];have e : x.esc b = x.plain b := by
     unfold Ga.esc;rw [if_neg (by omega), if_neg (by omega)]
    obtain ⟨k', h⟩ := step (k + 2);refine ⟨k', ?_⟩;rw [show ([92, b] ++ escL r ++ rest) = 92 :: b :: (escL r ++ rest) by simp, xl2 _ _ _ _ _ (by decide), e];exact h
   ·rw [if_neg c2];obtain ⟨k', h⟩ := step (k + 1);refine ⟨k', ?_⟩;rw [show ([b] ++ escL r ++ rest) = b :: (escL r ++ rest) by simp, xom _ _ _ _ (by omega) c1 (by omega)];exact h
theorem one_run (p : Pt) (h : ¬ (p.g < -1 \/ 9 < p.g)) (rest : List UInt8) (k : Nat) (x : Ga) : ∃ k', runP (oneT p ++ rest) k x = runP rest k' (gaO x p) := by
 unfold oneT gaO;by_cases h1 : p.g = -1
 ·rw [if_pos h1, if_pos h1];exact esc_run _ _ _ _
 ·rw [if_neg h1, if_neg h1];by_cases h0 : p.g = 0
  ·rw [if_pos h0, h0];exact ⟨k + 1, xl0 _ _ _ _ (by decide)⟩
  ·rw [if_neg h0];obtain ⟨n, hn⟩ : ∃ n : Nat, p.g = (n : Int) := ⟨p.g.toNat, by omega⟩;rw [hn, Int.toNat_natCast];have e8 : (UInt8.ofNat (48 + n)).toNat = 48 + n := by
    have e9 : (UInt8.ofNat (48 + n)).toNat = (48 + n) % 256 := rfl;omega
   refine ⟨k + 2, ?_⟩;rw [show ([92, UInt8.ofNat (48 + n)] ++ rest) = 92 :: UInt8.ofNat (48 + n) :: rest by simp, xl2 _ _ _ _ _ (by decide)];unfold Ga.esc;rw [e8, if_pos (by omega), Nat.add_sub_cancel_left]
def okPs (l : List Pt) : Prop := ∀ p ∈ l, ¬ (p.g < -1 \/ 9 < p.g)
theorem text_run : ∀ (ps : List Pt) (l L : List UInt8), tpl.textR ps l = some L -> okPs ps /\ ∃ body, L = l ++ body /\ ∀ (rest : List UInt8) (k : Nat) (x : Ga), ∃ k', runP (body ++ rest) k x = runP rest k' (gaL x ps)
 | [], l, L, h => by
  cases h;exact ⟨by intro p hp; simp at hp, [], by simp, fun rest k x => ⟨k, rfl⟩⟩
 | p :: r, l, L, h => by
  by_cases hb : p.g < -1 \/ 9 < p.g
  ·rw [text_bad p r l hb] at h;cases h
  ·rw [text_ok p r l hb] at h;obtain ⟨h1, body, rfl, h2⟩ := text_run r _ _ h;refine ⟨fun q hq => (List.mem_cons.1 hq).elim (fun e => by rw [e]; exact hb) (fun e => h1 q e), oneT p ++ body, by simp, fun rest k x => ?_⟩;obtain ⟨k1, e1⟩ := one_run p hb (body ++ rest) k x;obtain ⟨k2, e2⟩ := h2 rest k1 (gaO x p);refine ⟨k2, ?_⟩;rw [List.append_assoc, e1, e2];rfl
theorem text_some : ∀ (ps : List Pt) (l : List UInt8), okPs ps -> ∃ L, tpl.textR ps l = some L
 | [], l, _ => ⟨l, rfl⟩
 | p :: r, l, h => by
  rw [text_ok p r l (h p List.mem_cons_self)];exact text_some r _ (fun q hq => h q (List.mem_cons_of_mem _ hq))
variable {ps : List Pt} {x : Ga}
theorem parse_text {L : List UInt8} (h : tpl.textR ps [] = some L) (hL : L.length <= 4096) : okPs ps /\ xap L = ((gaL ⟨[], []⟩ ps).out, 0, 0) := by
 obtain ⟨h1, body, rfl, h2⟩ := text_run ps [] L h;refine ⟨h1, ?_⟩;unfold xap;rw [if_neg (by omega)];obtain ⟨k', e⟩ := h2 [] 0 ⟨[], []⟩;rw [List.append_nil] at e;rw [e, xlz]
theorem mem_out {p : Pt} (h : p ∈ x.out.ps) : p ∈ x.ps \/ p.g = -1 := by
 unfold Ga.out at h;split at h
 ·exact .inl h
 ·rw [List.mem_append, List.mem_singleton] at h;rcases h with h | rfl
  ·exact .inl h
  ·exact .inr rfl
theorem ok_out (h : okPs x.ps) : okPs x.out.ps := fun p hp => by
 rcases mem_out hp with h1 | h1
 ·exact h p h1
 ·omega
theorem ok_grp (h : okPs x.ps) (n : Int) (hn : ¬ (n < -1 \/ 9 < n)) : okPs (x.group n).ps := fun p hp => by
 unfold Ga.group at hp;rw [List.mem_append, List.mem_singleton] at hp;rcases hp with hp | rfl
 ·exact ok_out h p hp
 ·exact hn
def nfG (x : Ga) : Prop := gaL ⟨[], []⟩ x.ps = ⟨x.ps, []⟩ /\ okPs x.ps
theorem gaL_app (x : Ga) (l m : List Pt) : gaL x (l ++ m) = gaL (gaL x l) m := List.foldl_append
theorem nf_out (h : nfG x) : (gaL ⟨[], []⟩ x.out.ps).out = x.out := by
 unfold Ga.out;by_cases hb : x.bs = []
 ·rw [if_pos hb, h.1];rw [if_pos rfl, <- hb]
 ·rw [if_neg hb, gaL_app, h.1];have e : gaL ⟨x.ps, []⟩ [(⟨-1, bst x.bs⟩ : Pt)] = ⟨x.ps, x.bs⟩ := by
   simp only [gaL, List.foldl_cons, List.foldl_nil, gaO, if_true, xbu, List.nil_append]
  rw [e, if_neg hb]
theorem nf_group (h : nfG x) (n : Int) (hn : 0 <= n /\ n <= 9) : nfG (x.group n) := by
 refine ⟨?_, ok_grp h.2 n (by omega)⟩;have e : gaL ⟨[], []⟩ (x.out.ps ++ [⟨n, bst []⟩]) = gaO (gaL ⟨[], []⟩ x.out.ps) ⟨n, bst []⟩ := by rw [gaL_app]; rfl
 show gaL ⟨[], []⟩ (x.out.ps ++ [⟨n, bst []⟩]) = ⟨x.out.ps ++ [⟨n, bst []⟩], []⟩
 rw [e];unfold gaO;rw [if_neg (by simp only; omega)];unfold Ga.group;rw [nf_out h]
theorem nf_esc (h : nfG x) (c : UInt8) : nfG (x.esc c) := by
 unfold Ga.esc;split
 ·exact nf_group h _ (by omega)
 ·split <;> exact h
theorem run_nf : ∀ (l : List UInt8) (k : Nat) (x : Ga), nfG x -> (runP l k x).2.1 = 0 -> ∃ y, (runP l k x).1 = y.out /\ nfG y
 | [], k, x, h, _ => by
  rw [xlz];exact ⟨x, rfl, h⟩
 | b :: r, k, x, h, h0 => by
  by_cases c1 : b.toNat = 38
  ·rw [xl0 _ _ _ _ c1] at h0 ⊢;exact run_nf r _ _ (nf_group h 0 (by omega)) h0
  ·by_cases c2 : b.toNat = 10
   ·rw [xol _ _ _ _ c2] at h0; simp at h0
   ·by_cases c3 : b.toNat = 92
    ·cases r with
     | nil => rw [xl1 _ _ _ c3] at h0; simp at h0
     | cons c q =>
      rw [xl2 _ _ _ _ _ c3] at h0 ⊢;exact run_nf q _ _ (nf_esc h c) h0
    ·rw [xom _ _ _ _ c1 c2 c3] at h0 ⊢;exact run_nf r _ (x.plain b) h h0
 termination_by l => l.length
def NfP (ps : List Pt) : Prop := (gaL ⟨[], []⟩ ps).out.ps = ps /\ okPs ps
theorem parse_nf {u : List UInt8} (h : (xap u).2.1 = 0) : NfP (xap u).1.ps := by
 unfold xap at h ⊢;split
 ·exact ⟨rfl, fun p hp => by simp at hp⟩
 ·rename_i hl;rw [if_neg hl] at h;obtain ⟨y, e, hy⟩ := run_nf u 0 ⟨[], []⟩ ⟨rfl, fun p hp => by simp at hp⟩ h;rw [e];exact ⟨congrArg Ga.ps (nf_out hy), ok_out hy.2⟩
theorem esc_pc : ∀ t : List UInt8, pcB true (escL t) = true
 | [] => rfl
 | b :: r => by
  have ih := esc_pc r;unfold escL;split
  ·exact (pc_two true (.inr rfl) _).trans ih
  ·rename_i h1;split
   ·exact (pc_two true (.inr rfl) _).trans ih
   ·rename_i h2;exact (pc_one true (fun e => h1 (by rw [e]; rfl)) (fun e => h2 (.inl (by rw [e]; rfl))) _).trans ih
theorem pc_app (ln : Bool) : ∀ x y : List UInt8, pcB ln x = true -> pcB ln (x ++ y) = pcB ln y
 | [], y, _ => rfl
 | [b], y, h => by
  simp only [pcB, Bool.and_eq_true, decide_eq_true_eq] at h;exact pc_one ln h.1 h.2 y
 | b :: c :: r, y, h => by
  by_cases h1 : b = 92
  ·subst h1;simp only [pcB, if_true, Bool.and_eq_true, Bool.or_eq_true, decide_eq_true_eq] at h;exact (pc_two ln h.1 _).trans (pc_app ln r y h.2)
  ·rw [pcB, if_neg h1, Bool.and_eq_true, decide_eq_true_eq] at h;exact (pc_one ln h.1 h1 _).trans (pc_app ln (c :: r) y h.2)
theorem one_pc (p : Pt) : pcB true (oneT p) = true := by
 unfold oneT;split
 ·exact esc_pc _
 ·split
  ·rfl
  ·exact pc_two true (.inr rfl) []
theorem text_pc : ∀ (ps : List Pt) (l L : List UInt8), pcB true l = true -> tpl.textR ps l = some L -> pcB true L = true
 | [], l, L, hl, h => by cases h; exact hl
 | p :: r, l, L, hl, h => by
  by_cases hb : p.g < -1 \/ 9 < p.g
  ·rw [text_bad p r l hb] at h; cases h
  ·rw [text_ok p r l hb] at h;exact text_pc r _ L ((pc_app true l _ hl).trans (one_pc p)) h
theorem psW_ok (h : NfP ps) : pcB true (psW ps) = true /\ ((psW ps).length <= 4096 -> (xap (psW ps)).2.1 = 0 /\ (xap (psW ps)).1.ps = ps) := by
 obtain ⟨L, hL⟩ := text_some ps [] h.2;have e : psW ps = L := by unfold psW; rw [hL]; rfl
 rw [e];refine ⟨text_pc ps [] L rfl hL, fun hl => ?_⟩;rw [(parse_text hL hl).2];exact ⟨rfl, h.1⟩
end sho
end Go.Proofs.YtidgnebbibkmhaaGreatDoor
namespace Go.Proofs.YtidgnebbibkmhaaGreatDoor
open Go.RowKit
open scanP scrP tpl ytb
namespace sho
def nmS : List UInt8 := [123, 97, 105, 99, 58, 98, 116, 114, 119, 115, 121] ++ plnS
structure WfA (G : Gr) (a : Adr) : Prop where
 z : a.k = 0 -> a = adr0
 l : a.k = 1 -> 1 <= a.ln /\ a.ln < 1000000000 /\ a.re = []
 d : a.k = 2 -> a.ln = 0 /\ a.re = []
 m : a.k = 3 -> a.ln = 0 /\ pcB false a.re = true /\ (G a.re).1 = 0
 le : a.k <= 3
theorem WfA.nil (G : Gr) : WfA G adr0 := ⟨fun _ => rfl, fun e => (by cases e), fun e => (by cases e), fun e => (by cases e), by decide⟩
variable {G : Gr} {l : List UInt8} {i k : Nat} {a : Adr} {c : Co}
theorem mat_wf {p : Nat} (h : matR G l p i = .ok (a, k)) : WfA G a := by
 unfold matR at h;split at h
 ·cases h
 ·split at h
  ·cases h
  ·rename_i hp;split at h
   ·cases h
   ·rename_i hg;cases h;refine ⟨fun e => (by cases e), fun e => (by cases e), fun e => (by cases e), fun _ => ⟨rfl, pie_pc hp, ?_⟩, by show 3 <= 3; decide⟩;unfold grpR at hg;split at hg
    ·assumption
    ·cases hg
theorem one_wf (h : oneA G l i = .ok (a, k)) : WfA G a := by
 unfold oneA at h;split at h
 ·unfold linR at h;split at h
  ·cases h
  ·rename_i hn;cases h;have h1 := num_lt l i;exact ⟨fun e => (by cases e), fun _ => ⟨by have : ¬ (numR l i).1 = 0 := fun e => hn (.inr e); show 1 <= (numR l i).1; omega, h1, rfl⟩, fun e => (by cases e), fun e => (by cases e), by show 1 <= 3; decide⟩
 ·split at h
  ·cases h;exact ⟨fun e => (by cases e), fun e => (by cases e), fun _ => ⟨rfl, rfl⟩, fun e => (by cases e), by show 2 <= 3; decide⟩
  ·split at h
   ·exact mat_wf h
   ·split at h
    ·exact mat_wf h
    ·cases h; exact .nil G
theorem two_wf {b : Adr} (h : twoA G l i = .ok (a, b, k)) : WfA G a /\ WfA G b := by
 unfold twoA at h;split at h
 ·cases h
 ·rename_i ho;split at h
  ·cases h; exact ⟨one_wf ho, .nil G⟩
  ·split at h
   ·split at h
    ·cases h
    ·rename_i h2;split at h
     ·cases h
     ·cases h; exact ⟨one_wf ho, one_wf h2⟩
   ·cases h; exact ⟨one_wf ho, .nil G⟩
def Hb (t : List UInt8) : Prop := ∀ b r, t = b :: r -> b ≠ 32 /\ b ≠ 9
def Lb (t : List UInt8) : Prop := (∀ b ∈ t, b ≠ 10 /\ b ≠ 59) /\ Hb t /\ ∀ b, t.getLast? = some b -> b ≠ 32 /\ b ≠ 9
def Fi (t : List UInt8) : Prop := xfy t = true /\ Hb t
theorem hb_blk : ∀ l : List UInt8, Hb (l.drop (blkN l))
 | [] => fun b r h => by simp at h
 | c :: l => by
  unfold blkN;split
  ·rw [List.drop_succ_cons]; exact hb_blk l
  ·rename_i hc;intro b r h;rw [List.drop_zero] at h;cases h;exact ⟨fun e => hc (.inl e), fun e => hc (.inr e)⟩
theorem hb_bl (l : List UInt8) (i : Nat) : Hb (l.drop (xab l i)) := by
 unfold xab; rw [<- List.drop_drop]; exact hb_blk _
theorem Hb.take {t : List UInt8} (h : Hb t) (n : Nat) : Hb (t.take n) := fun b r e => by
 cases t with
 | nil => simp at e
 | cons c q =>
  cases n with
  | zero => simp at e
  | succ n =>
   rw [List.take_succ_cons] at e;cases e;exact h _ _ rfl
theorem wd_free : ∀ (l : List UInt8), ∀ b ∈ l.take (wdN l), b ≠ 10 /\ b ≠ 59
 | [] => fun b h => by simp at h
 | c :: l => fun b h => by
  rw [show wdN (c :: l) = if c = 10 \/ c = 59 then 0 else wdN l + 1 from rfl] at h;split at h
  ·simp at h
  ·rename_i hc;rw [List.take_succ_cons, List.mem_cons] at h;rcases h with e | h
   ·rw [e]; exact ⟨fun e => hc (.inl e), fun e => hc (.inr e)⟩
   ·exact wd_free l b h
theorem rt_last (x : List UInt8) : ∀ n, n <= x.length -> ∀ b, (x.take (rtN n x)).getLast? = some b -> b ≠ 32 /\ b ≠ 9
 | 0, _ => fun b h => by simp [rtN] at h
 | n + 1, hn => fun b h => by
  unfold rtN at h;split at h
  ·exact rt_last x n (by omega) b h
  ·rename_i hc;have e : (x.take (n + 1)).getLast? = x[n]? := by
    rw [List.getLast?_eq_getElem?, List.length_take, Nat.min_eq_left hn, List.getElem?_take_of_lt (by omega)]; rfl
   rw [e] at h;rw [h] at hc;exact ⟨fun e => hc (.inl (by rw [e])), fun e => hc (.inr (by rw [e]))⟩
theorem word_wf (l : List UInt8) (i : Nat) : Lb (xcw l i).1 := by
 unfold xcw;simp only;have h1 := rt_le (wdN (l.drop (xab l i))) (l.drop (xab l i));have h2 := Nat.le_trans (wd_le (l.drop (xab l i))) (xhg _);refine ⟨fun b hb => wd_free (l.drop (xab l i)) b ?_, (hb_bl l i).take _, rt_last _ _ h2⟩;exact (List.take_prefix_take_left h1).subset hb
theorem line_wf (h : xfy (xbi l i).1 = true) : Fi (xbi l i).1 := ⟨h, (hb_bl l i).take _⟩
theorem fil_wf {d : Co} (h : filC l c i = .ok (d, k)) : ∃ t, d = { c with fl := t } /\ Fi t := by
 unfold filC filR at h;split at h
 ·cases h
 ·rename_i hf;split at hf
  ·rename_i hn;have e := Except.ok.inj hf;cases h;rw [e] at hn;have := line_wf (l := l) (i := i) (by rw [e]; exact hn);rw [e] at this;exact ⟨_, rfl, this⟩
  ·cases hf
structure FgX (c d : Co) : Prop where
 re : d.re = c.re
 ps : d.ps = c.ps
 nt : d.nt = c.nt
 fl : d.fl = c.fl \/ Fi d.fl
theorem flg_wf : ∀ (n : Nat) {c d : Co} {i k : Nat}, flgR l n c i = .ok (d, k) -> FgX c d
 | 0, c, d, i, k, h => by cases h; exact ⟨rfl, rfl, rfl, .inl rfl⟩
 | n + 1, c, d, i, k, h => by
  unfold flgR at h;split at h
  ·exact bsw10
  ·split at h
   ·exact bsw10
   ·split at h
    ·exact bsw10
    ·split at h
     ·obtain ⟨t, rfl, ht⟩ := fil_wf h;exact ⟨rfl, rfl, rfl, .inr ht⟩
     ·unfold endC at h;split at h
      ·cases h
      ·cases h; exact ⟨rfl, rfl, rfl, .inl rfl⟩
def kd (n : UInt8) : Nat := if n = 97 \/ n = 105 \/ n = 99 then 1 else if n = 58 \/ n = 98 \/ n = 116 then 2 else if n = 114 \/ n = 119 then 3 else if n = 115 then 4 else if n = 121 then 5 else 0
structure Nm (G : Gr) (c : Co) : Prop where
 nm : nmS.contains c.nm = true
 lb : kd c.nm = 2 -> Lb c.lb /\ c.lb.length <= 32 /\ (c.nm = 58 -> c.lb ≠ [])
 fl : kd c.nm = 3 -> Fi c.fl
 sd : kd c.nm = 4 -> pcB false c.re = true /\ (G c.re).1 = 0 /\ NfP c.ps /\ (c.re ≠ [] -> xfz c.ps 0 <= ((G c.re).2 : Int)) /\ (c.fl = [] \/ Fi c.fl)
 yt : kd c.nm = 5 -> twB c.fr = false
structure WfC (G : Gr) (c : Co) : Prop extends Nm G c where
 fo : FO c
 a : WfA G c.a
 b : WfA G c.b
theorem Nm.of (nm : nmS.contains c.nm = true) (hk : kd c.nm = k) (h : k < 2) : Nm G c := ⟨nm, fun e => by omega, fun e => by omega, fun e => by omega, fun e => by omega⟩
theorem rst_wf {d : Co} (hB : Bg c) (h : rstR G l c i = .ok (d, k)) : Nm G d /\ d.a = c.a /\ d.b = c.b := by
 unfold rstR at h;by_cases h1 : c.nm = 123
 ·rw [if_pos h1] at h;cases h;exact ⟨.of (by rw [h1]; decide) (k := 0) (by rw [h1]; decide) (by decide), rfl, rfl⟩
 rw [if_neg h1] at h;by_cases h2 : c.nm = 97 \/ c.nm = 105 \/ c.nm = 99
 ·rw [if_pos h2] at h;unfold txtC at h;split at h
  ·cases h
  ·cases h;exact ⟨.of (by show nmS.contains c.nm = true; rcases h2 with e | e | e <;> (rw [e]; decide)) (k := 1) (by show kd c.nm = 1; unfold kd; rw [if_pos h2]) (by decide), rfl, rfl⟩
 rw [if_neg h2] at h;by_cases h3 : c.nm = 58 \/ c.nm = 98 \/ c.nm = 116
 ·rw [if_pos h3] at h;have hk : kd c.nm = 2 := by unfold kd; rw [if_neg h2, if_pos h3]
  unfold labC labR at h;split at h
  ·cases h
  ·rename_i hl;split at hl
   ·cases hl
   ·rename_i hn;have e := Except.ok.inj hl;cases h;refine ⟨⟨?_, fun _ => ?_, fun e => ?_, fun e => ?_, fun e => ?_⟩, rfl, rfl⟩
    ·rcases h3 with e | e | e <;> (show nmS.contains c.nm = true; rw [e]; decide)
    ·have hw := word_wf l i;rw [e] at hn hw;exact ⟨hw, Nat.le_of_not_lt fun e => hn (.inl e), fun e1 e2 => hn (.inr ⟨e1, e2⟩)⟩
    all_goals exact absurd (hk.symm.trans e) (by decide)
 rw [if_neg h3] at h;by_cases h4 : c.nm = 114 \/ c.nm = 119
 ·rw [if_pos h4] at h;have hk : kd c.nm = 3 := by unfold kd; rw [if_neg h2, if_neg h3, if_pos h4]
  obtain ⟨t, rfl, ht⟩ := fil_wf h;refine ⟨⟨?_, fun e => ?_, fun _ => ht, fun e => ?_, fun e => ?_⟩, rfl, rfl⟩
  ·rcases h4 with e | e <;> (show nmS.contains c.nm = true; rw [e]; decide)
  all_goals exact absurd (hk.symm.trans e) (by decide)
 rw [if_neg h4] at h;by_cases h5 : c.nm = 115
 ·rw [if_pos h5] at h;unfold sedR at h;split at h
  ·cases h
  split at h
  ·cases h
  rename_i hp1;split at h
  ·cases h
  split at h
  ·cases h
  rename_i hg;split at h
  ·cases h
  rename_i hpe;split at h
  ·cases h
  rename_i hre;split at h
  ·cases h
  rename_i d' k' hf;cases h;have K := xen _ (by show c.nh <= 512; rw [hB.nh]; decide) hf;have X := flg_wf _ hf;have hk : kd d'.nm = 4 := by rw [K.nm]; show kd c.nm = 4; rw [h5]; decide
  refine ⟨⟨?_, fun e => ?_, fun e => ?_, fun _ => ⟨?_, ?_, ?_, ?_, ?_⟩, fun e => ?_⟩, K.a, K.b⟩
  ·show nmS.contains d'.nm = true; rw [K.nm]; show nmS.contains c.nm = true; rw [h5]; decide
  ·exact absurd (hk.symm.trans e) (by decide)
  ·exact absurd (hk.symm.trans e) (by decide)
  ·show pcB false d'.re = true; rw [X.re]; exact pie_pc hp1
  ·show (G d'.re).1 = 0; rw [X.re]
   unfold grpR at hg;split at hg
   ·assumption
   ·cases hg
  ·show NfP d'.ps; rw [X.ps]; exact parse_nf (Decidable.not_not.1 hpe)
  ·show d'.re ≠ [] -> xfz d'.ps 0 <= ((G d'.re).2 : Int)
   rw [X.re, X.ps];intro hne;unfold grpR at hg;split at hg
   ·cases hg;exact Int.not_lt.1 fun e => hre ⟨hne, e⟩
   ·cases hg
  ·show d'.fl = [] \/ Fi d'.fl
   rcases X.fl with e | e
   ·left; rw [e]; exact hB.fl
   ·exact .inr e
  ·exact absurd (hk.symm.trans e) (by decide)
 rw [if_neg h5] at h;by_cases h6 : c.nm = 121
 ·rw [if_pos h6] at h;split at h
  ·cases h
  ·rename_i c' k' ht;unfold endC at h;split at h
   ·cases h
   ·cases h;unfold tabR at ht;split at ht
    ·cases ht
    split at ht
    ·cases ht
    split at ht
    ·cases ht
    split at ht
    ·cases ht
    rename_i hn;cases ht;have hk : kd c.nm = 5 := by rw [h6]; decide
    refine ⟨⟨?_, fun e => ?_, fun e => ?_, fun e => ?_, fun _ => ?_⟩, rfl, rfl⟩
    ·show nmS.contains c.nm = true; rw [h6]; decide
    ·exact absurd (hk.symm.trans e) (by decide)
    ·exact absurd (hk.symm.trans e) (by decide)
    ·exact absurd (hk.symm.trans e) (by decide)
    ·exact Bool.eq_false_iff.2 fun e => hn (.inr e)
 rw [if_neg h6] at h;split at h
 ·rename_i h7;unfold endC at h;split at h
  ·cases h
  ·cases h;refine ⟨.of ?_ (k := 0) ?_ (by decide), rfl, rfl⟩
   ·unfold nmS; rw [List.contains_eq_any_beq, List.any_append, <- List.contains_eq_any_beq, <- List.contains_eq_any_beq, h7, Bool.or_true]
   ·unfold kd; rw [if_neg h2, if_neg h3, if_neg h4, if_neg h5, if_neg h6]
 ·cases h
theorem cmd_wf (h : cmdR G l i = .ok (c, k)) : WfC G c := by
 have hF := (cmd_fo h).1;unfold cmdR at h;split at h
 ·cases h
 rename_i ht;split at h
 ·cases h
 have hA := two_wf ht;obtain ⟨h1, h2, h3⟩ := rst_wf ⟨rfl, rfl, rfl, rfl, rfl, rfl, rfl, rfl, rfl, rfl, two_ad ht⟩ h;exact ⟨h1, hF, by rw [h2]; exact hA.1, by rw [h3]; exact hA.2⟩
theorem all_wf : ∀ (n i : Nat) (acc cs : List Co), (∀ c ∈ acc, WfC G c) -> allR G l n i acc = .ok cs -> ∀ c ∈ cs, WfC G c
 | 0, i, acc, cs, ha, h => by cases h; exact ha
 | n + 1, i, acc, cs, ha, h => by
  unfold allR at h;split at h
  ·cases h; exact ha
  ·split at h
   ·cases h
   ·rename_i hc;refine all_wf n _ _ cs (fun c hm => ?_) h;rw [List.mem_append, List.mem_singleton] at hm;rcases hm with hm | rfl
    ·exact ha c hm
    ·exact cmd_wf hc
theorem scr_wf (h : (scrR G l).2.2.1 = 0) : ∀ c ∈ (scrR G l).1, WfC G c := by
 obtain ⟨_, cs, h1, h2⟩ := xhc h;rw [h2];exact all_wf _ _ _ _ (fun c hc => by simp at hc) h1
end sho
end Go.Proofs.YtidgnebbibkmhaaGreatDoor
namespace Go.Proofs.YtidgnebbibkmhaaGreatDoor
open Go.RowKit
open scanP scrP tpl ytb
namespace sho
def sgS : List UInt8 := dgS ++ [36, 47, 92, 44, 32, 9, 10, 59, 35]
theorem u8_all {p : UInt8 -> Bool} (h : ∀ n : Fin 256, p (UInt8.ofNat n.val) = true) (b : UInt8) : p b = true := by
 have := h ⟨b.toNat, b.toNat_lt⟩
 rwa [show UInt8.ofNat b.toNat = b from by simp] at this
theorem dg_eq (b : UInt8) : dgS.contains b = isDg b := by
 have := u8_all (p := fun b => dgS.contains b == isDg b) (by decide +kernel) b;simpa using this
variable {b x : UInt8} {l r t : List UInt8} {i : Nat} {G : Gr} {a : Adr} {c : Co}
theorem sg_all (h : sgS.contains b = false) : isDg b = false /\ b ≠ 36 /\ b ≠ 47 /\ b ≠ 92 /\ b ≠ 44 /\ b ≠ 32 /\ b ≠ 9 /\ b ≠ 10 /\ b ≠ 59 /\ b ≠ 35 := by
 have := u8_all (p := fun b => sgS.contains b || (!isDg b && decide (b ≠ 36 /\ b ≠ 47 /\ b ≠ 92 /\ b ≠ 44 /\ b ≠ 32 /\ b ≠ 9 /\ b ≠ 10 /\ b ≠ 59 /\ b ≠ 35))) (by decide +kernel) b;rw [h, Bool.false_or, Bool.and_eq_true, decide_eq_true_eq, Bool.not_eq_true'] at this;exact this
theorem nm_sg (h : nmS.contains b = true) : sgS.contains b = false /\ b ≠ 33 := by
 have := u8_all (p := fun b => !nmS.contains b || (!sgS.contains b && decide (b ≠ 33))) (by decide +kernel) b;rw [h, Bool.not_true, Bool.false_or, Bool.and_eq_true, decide_eq_true_eq, Bool.not_eq_true'] at this;exact this
theorem mt_ne (h : l.drop i = b :: r) (hb : b ≠ x) : mtB l i [x] = false := by rw [mt_of h]; simp [hb]
theorem mt_dg (h : l.drop i = b :: r) : mtB l i dgS = isDg b := by rw [mt_of h, dg_eq]
theorem dg_nil (h : isDg b = false) : dgN (b :: r) = 0 := by rw [dgN, h]; rfl
theorem mat_of {p : Nat} {d : UInt8} {x : List UInt8} (h : l.drop i = d :: (x ++ d :: r)) (hd : d ≠ 10 /\ d ≠ 92) (hn : x.contains d = false) (hx : pcB false x = true) (hg : (G x).1 = 0) : matR G l p i = .ok (⟨3, 0, x⟩, i + (x.length + 2)) := by
 unfold matR;rw [del_of h hd];simp only;rw [pie_of (drop_one h) hd hx hn];simp only [grpR, hg, if_true];rw [show i + 1 + x.length + 1 = i + (x.length + 2) by omega]
theorem one_of (hw : WfA G a) (ht : adW a = some t) (h : l.drop i = t ++ b :: r) (hb : isDg b = false /\ b ≠ 36 /\ b ≠ 47 /\ b ≠ 92) : oneA G l i = .ok (a, i + t.length) := by
 obtain ⟨s1, s2, s3, s4⟩ := hb;unfold adW at ht;unfold oneA;by_cases h1 : a.k = 1
 ·rw [if_pos h1] at ht;cases ht;obtain ⟨w1, w2, w3⟩ := hw.l h1;obtain ⟨x, t, e⟩ := dec_ne a.ln;have hx := dec_dg a.ln x (by rw [e]; exact List.mem_cons_self);have hd : l.drop i = x :: (t ++ b :: r) := by rw [h, e]; rfl
  have hl : linR l i = .ok (⟨1, a.ln, []⟩, i + (Lib.decDigits a.ln).length) := by
   unfold linR;rw [num_of h (dg_nil s1) w2, if_neg (by simp only; omega)]
  rw [mt_dg hd, hx, if_pos rfl, hl];obtain ⟨ak, al, ar⟩ := a;simp only at h1 w3 ⊢;rw [h1, w3]
 rw [if_neg h1] at ht;by_cases h2 : a.k = 2
 ·rw [if_pos h2] at ht;cases ht;obtain ⟨w1, w2⟩ := hw.d h2;have hd : l.drop i = 36 :: (b :: r) := h;rw [mt_dg hd, if_neg (by decide), mt_of hd, if_pos (by decide)];obtain ⟨ak, al, ar⟩ := a;simp only at h2 w1 w2 ⊢;rw [h2, w1, w2];rfl
 rw [if_neg h2] at ht;by_cases h3 : a.k = 3
 ·rw [if_pos h3] at ht;obtain ⟨w1, w2, w3⟩ := hw.m h3;have ea : a = ⟨3, 0, a.re⟩ := by
   obtain ⟨ak, al, ar⟩ := a;simp only at h3 w1 ⊢;rw [h3, w1]
  unfold btw at ht;split at ht
  ·cases ht
  ·rename_i u hu;split at hu
   ·cases hu
   ·rename_i d hd;obtain ⟨d1, d2⟩ := dlm_ok hd;have d3 := d2 a.re List.mem_cons_self;cases hu;by_cases hf : frB 47 [a.re] = true
    ·have : d = 47 := by unfold dlm at hd; rw [if_pos hf] at hd; cases hd; rfl
     subst this;rw [if_pos hf] at ht;cases ht;have hd2 : l.drop i = 47 :: (a.re ++ 47 :: (b :: r)) := by rw [h]; simp [bws]
     rw [mt_dg hd2, if_neg (by decide), mt_ne hd2 (by decide), if_neg (by simp), mt_of hd2, if_pos (by decide), mat_of hd2 d1 d3 w2 w3, <- ea];simp [bws]
    ·rw [if_neg hf] at ht;cases ht;have hd2 : l.drop i = 92 :: (d :: (a.re ++ d :: (b :: r))) := by rw [h]; simp [bws]
     rw [mt_dg hd2, if_neg (by decide), mt_ne hd2 (by decide), if_neg (by simp), mt_ne hd2 (by decide), if_neg (by simp), mt_of hd2, if_pos (by decide), mat_of (drop_one hd2) d1 d3 w2 w3, <- ea];simp [bws]; omega
 rw [if_neg h3] at ht;cases ht;have h0 : a.k = 0 := by have := hw.le; omega
 have hd : l.drop i = b :: r := h;rw [mt_dg hd, s1, if_neg (by simp), mt_ne hd s2, if_neg (by simp), mt_ne hd s3, if_neg (by simp), mt_ne hd s4, if_neg (by simp), hw.z h0];rfl
theorem adW_hd (hw : WfA G a) (h0 : a.k ≠ 0) (ht : adW a = some t) : ∃ x q, t = x :: q /\ [32, 9, 10, 59, 35].contains x = false := by
 unfold adW at ht;by_cases h1 : a.k = 1
 ·rw [if_pos h1] at ht;cases ht;obtain ⟨x, t, e⟩ := dec_ne a.ln;have hx := dec_dg a.ln x (by rw [e]; exact List.mem_cons_self);refine ⟨x, t, e, ?_⟩;have := u8_all (p := fun b => !isDg b || !([32, 9, 10, 59, 35] : List UInt8).contains b) (by decide +kernel) x;rw [hx] at this;simpa using this
 rw [if_neg h1] at ht;by_cases h2 : a.k = 2
 ·rw [if_pos h2] at ht;cases ht;exact ⟨36, [], rfl, by decide⟩
 rw [if_neg h2] at ht;rw [if_pos (by have := hw.le; omega)] at ht;unfold btw at ht;split at ht
 ·cases ht
 ·rename_i u hu;split at hu
  ·cases hu
  ·rename_i d hd;cases hu;by_cases hf : frB 47 [a.re] = true
   ·have : d = 47 := by unfold dlm at hd; rw [if_pos hf] at hd; cases hd; rfl
    subst this;rw [if_pos hf] at ht;cases ht;exact ⟨47, _, rfl, by decide⟩
   ·rw [if_neg hf] at ht;cases ht;exact ⟨92, _, rfl, by decide⟩
theorem bl_hd {q : List UInt8} (h : l.drop i = x :: q) (hx : [32, 9, 10, 59, 35].contains x = false) : xab l i = i := bl_of h (by simp at hx; exact ⟨hx.1, hx.2.1⟩)
theorem two_of {x y : List UInt8} (hw : WfC G c) (hx : adW c.a = some x) (hy : abW c = some y) (h : l.drop i = x ++ (y ++ b :: r)) (hb : sgS.contains b = false) : twoA G l i = .ok (c.a, c.b, i + (x.length + y.length)) := by
 obtain ⟨s1, s2, s3, s4, s5, s6, s7, -⟩ := sg_all hb;have hb4 := And.intro s1 (And.intro s2 (And.intro s3 s4));unfold abW at hy;unfold twoA;by_cases h0 : c.b.k = 0
 ·rw [if_pos h0] at hy;cases hy;rw [one_of hw.a hx h hb4, hw.b.z h0];simp only;split
  ·rfl
  ·have hk : l.drop (i + x.length) = b :: r := drop_of h;rw [bl_of hk ⟨s6, s7⟩, mt_ne hk s5, if_neg (by simp)];rfl
 ·rw [if_neg h0] at hy;cases hz : adW c.b with
  | none => rw [hz] at hy; cases hy
  | some z =>
   rw [hz] at hy;cases hy;have ha : c.a.k ≠ 0 := fun e => h0 (hw.fo.ad e);rw [one_of (r := z ++ b :: r) (b := 44) hw.a hx (by rw [h]; rfl) (by decide)];have hk : l.drop (i + x.length) = 44 :: (z ++ b :: r) := drop_of h;obtain ⟨e1, q, e2, e3⟩ := adW_hd hw.b h0 hz;have hm : l.drop (i + x.length + 1) = z ++ b :: r := drop_one hk;simp only;rw [if_neg ha, bl_of hk (by decide), mt_of hk, if_pos (by decide), bl_hd (q := q ++ b :: r) (by rw [hm, e2]; rfl) e3, one_of hw.b hz hm hb4];simp only;rw [if_neg h0, List.length_cons];rw [show i + x.length + 1 + z.length = i + (x.length + (z.length + 1)) by omega]
theorem not_of (h : l.drop i = ntW c ++ c.nm :: r) (hn : nmS.contains c.nm = true) : notR l i = (c.nt, i + (ntW c).length) := by
 obtain ⟨h1, h2⟩ := nm_sg hn;obtain ⟨-, -, -, -, -, s6, s7, -⟩ := sg_all h1;unfold ntW at h ⊢;unfold notR;cases hc : c.nt with
 | true =>
  rw [hc] at h;have hk : l.drop i = 33 :: (c.nm :: r) := h;rw [bl_of hk (by decide), mt_of hk, if_pos (by decide), bl_of (drop_one hk) ⟨s6, s7⟩];rfl
 | false =>
  rw [hc] at h;have hk : l.drop i = c.nm :: r := h;rw [bl_of hk ⟨s6, s7⟩, mt_ne hk h2, if_neg (by simp)];rfl
theorem end_of (c : Co) (h : l.drop i = 10 :: r) : endC l c i = .ok (c, i) := by
 unfold endC endR;rw [bl_of h (by decide), if_pos (.inr (by rw [mt_of h]; decide))]
theorem ln_of (r : List UInt8) : ∀ x : List UInt8, (∀ b ∈ x, b ≠ 10) -> lnN (x ++ 10 :: r) = x.length
 | [], _ => rfl
 | b :: x, h => by
  rw [List.cons_append, lnN, if_neg (h b List.mem_cons_self), ln_of r x (fun c hc => h c (List.mem_cons_of_mem _ hc))]; rfl
theorem wd_of (r : List UInt8) : ∀ x : List UInt8, (∀ b ∈ x, b ≠ 10 /\ b ≠ 59) -> wdN (x ++ 10 :: r) = x.length
 | [], _ => rfl
 | b :: x, h => by
  have := h b List.mem_cons_self;rw [List.cons_append, wdN, if_neg (by rintro (e | e); exact this.1 e; exact this.2 e), wd_of r x (fun c hc => h c (List.mem_cons_of_mem _ hc))]; rfl
theorem bl_wo (ht : t ≠ []) (hh : Hb t) (h : l.drop i = 32 :: (t ++ r)) : xab l i = i + 1 := by
 obtain ⟨b, q, rfl⟩ : ∃ b q, t = b :: q := by cases t with | nil => exact absurd rfl ht | cons b q => exact ⟨b, q, rfl⟩
 have := hh b q rfl;unfold xab;rw [h, List.cons_append, blkN, if_pos (.inl rfl), blkN, if_neg (by rintro (e | e); exact this.1 e; exact this.2 e)]
theorem line_of (hf : Fi t) (h : l.drop i = woW t ++ 10 :: r) : xbi l i = (t, i + (woW t).length) := by
 have ht : t ≠ [] := fun e => by have := hf.1; rw [e] at this; cases this
 unfold woW at h ⊢;rw [if_neg ht] at h ⊢;rw [List.cons_append] at h;have hn : ∀ b ∈ t, b ≠ 10 := fun b hb => by
  have := hf.1;unfold xfy at this;rw [Bool.and_eq_true] at this;have := List.all_eq_true.1 this.2 b hb;simp at this;exact this.1
 unfold xbi;simp only;rw [bl_wo ht hf.2 h, drop_one h, ln_of r t hn, List.take_left, List.length_cons];congr 1;omega
theorem fil_of (c : Co) (hf : Fi t) (h : l.drop i = woW t ++ 10 :: r) : filC l c i = .ok ({ c with fl := t }, i + (woW t).length) := by
 unfold filC filR;rw [line_of hf h];simp only [hf.1, if_true]
theorem rt_of (x r : List UInt8) (h : ∀ b, x.getLast? = some b -> b ≠ 32 /\ b ≠ 9) : rtN x.length (x ++ r) = x.length := by
 cases hn : x.length with
 | zero => rfl
 | succ n =>
  have hl : n < x.length := by omega
  have e : x.getLast? = some x[n] := by rw [List.getLast?_eq_getElem?, hn]; exact List.getElem?_eq_getElem hl
  have := h _ e;rw [rtN, List.getElem?_append_left hl, List.getElem?_eq_getElem hl, if_neg (by rintro (e | e); exact this.1 (Option.some.inj e); exact this.2 (Option.some.inj e))]
theorem word_of (hf : Lb t) (h : l.drop i = woW t ++ 10 :: r) : xcw l i = (t, i + (woW t).length) := by
 unfold woW at h ⊢;unfold xcw;simp only;by_cases ht : t = []
 ·rw [if_pos ht] at h ⊢;rw [ht];rw [bl_of h (by decide), h];rfl
 ·rw [if_neg ht] at h ⊢;rw [List.cons_append] at h;rw [bl_wo ht hf.2.1 h, drop_one h, wd_of r t hf.1, rt_of t _ hf.2.2, List.take_left, List.length_cons];congr 1;omega
end sho
end Go.Proofs.YtidgnebbibkmhaaGreatDoor
namespace Go.Proofs.YtidgnebbibkmhaaGreatDoor
open Go.RowKit
open scanP scrP tpl ytb
namespace sho
theorem tx_of (r : List UInt8) : ∀ (x : List UInt8) (p : Nat) (t : List UInt8), txR (eN [92, 10] x ++ 10 :: r) p t = (t ++ x ++ [10], p + (eN [92, 10] x).length + 1, 0)
 | [], p, t => by cases r <;> simp [eN, txR]
 | b :: x, p, t => by
  have two : ∀ c : UInt8, txR (92 :: c :: (eN [92, 10] x ++ 10 :: r)) p t = (t ++ c :: x ++ [10], p + ((eN [92, 10] x).length + 2) + 1, 0) := fun c => by
   rw [txR, if_neg (by decide), if_pos rfl, tx_of r x];simp; omega
  unfold eN;split
  ·rename_i hb; rw [hb]; exact (two 92).trans (by simp)
  ·split
   ·rename_i hb; rw [hb]; exact (two 10).trans (by simp)
   ·rename_i h1 h2;obtain ⟨c, q, e⟩ : ∃ c q, eN [92, 10] x ++ 10 :: r = c :: q := by cases eN [92, 10] x with | nil => exact ⟨_, _, rfl⟩ | cons c q => exact ⟨_, _, rfl⟩
    have h := tx_of r x (p + 1) (t ++ [b]);show txR (b :: (eN [92, 10] x ++ 10 :: r)) p t = _
    rw [e] at h ⊢;rw [txR, if_neg h2, if_neg h1, h];simp; omega
variable {l r f : List UInt8} {i n m : Nat} {c : Co} {pr : Bool}
theorem text_of {x : List UInt8} (c : Co) (h : l.drop i = (92 :: 10 :: eN [92, 10] x) ++ 10 :: r) : txtC l c i = .ok ({ c with tx := x ++ [10] }, i + ((eN [92, 10] x).length + 2) + 1) := by
 have hd : l.drop i = 92 :: 10 :: (eN [92, 10] x ++ 10 :: r) := h;have e : scanP.textR l i = (x ++ [10], i + ((eN [92, 10] x).length + 2) + 1, 0) := by
  unfold scanP.textR;simp only;rw [bl_of hd (by decide), hd];simp only [and_self, if_true];rw [if_neg (by simp), tx_of r x];simp; omega
 unfold txtC txtR;rw [e];rfl
theorem flg_n {b : UInt8} (h : l.drop i = Lib.decDigits m ++ b :: r) (hb : isDg b = false) (h0 : c.nh = 0) (h1 : 1 <= m) (h2 : m <= 512) : flgR l (n + 1) c i = flgR l n { c with nh := m } (i + (Lib.decDigits m).length) := by
 obtain ⟨x, t, e⟩ := dec_ne m;have hx := dec_dg m x (by rw [e]; exact List.mem_cons_self);have hd : l.drop i = x :: (t ++ b :: r) := by rw [h, e]; rfl
 have n1 : x ≠ 103 := fun e => by rw [e] at hx; cases hx
 have n2 : x ≠ 112 := fun e => by rw [e] at hx; cases hx
 rw [flgR, mt_ne hd n1, if_neg (by simp), mt_ne hd n2, if_neg (by simp), mt_dg hd, hx, if_pos rfl, num_of h (dg_nil hb) (by omega), if_neg (by simp only; omega)]
theorem flg_g (h : l.drop i = 103 :: r) (h0 : c.an = false) : flgR l (n + 1) c i = flgR l n { c with an := true } (i + 1) := by
 rw [flgR, mt_of h, if_pos (by decide), h0, if_neg (by simp)]
theorem flg_p (h : l.drop i = 112 :: r) (h0 : c.pr = false) : flgR l (n + 1) c i = flgR l n { c with pr := true } (i + 1) := by
 rw [flgR, mt_ne h (by decide), if_neg (by simp), mt_of h, if_pos (by decide), h0, if_neg (by simp)]
theorem flg_w (h : l.drop i = 119 :: r) : flgR l (n + 1) c i = filC l c (i + 1) := by
 rw [flgR, mt_ne h (by decide), if_neg (by simp), mt_ne h (by decide), if_neg (by simp), mt_dg h, if_neg (by decide), mt_of h, if_pos (by decide)]
theorem flg_e (h : l.drop i = 10 :: r) : flgR l (n + 1) c i = .ok (c, i) := by
 rw [flgR, mt_ne h (by decide), if_neg (by simp), mt_ne h (by decide), if_neg (by simp), mt_dg h, if_neg (by decide), mt_ne h (by decide), if_neg (by simp), end_of c h]
theorem ok_eq {a a' : Co} (h1 : a = a') (h2 : n = m) : (Except.ok (a, n) : Rd (Co × Nat)) = .ok (a', m) := by rw [h1, h2]
theorem flg_3 (hc : c.fl = []) (hf : f = [] \/ Fi f) (h : l.drop i = (if f = [] then [] else 119 :: woW f) ++ 10 :: r) : flgR l (n + 1) c i = .ok ({ c with fl := f }, i + (if f = [] then [] else 119 :: woW f).length) := by
 by_cases h0 : f = []
 ·rw [if_pos h0] at h ⊢;rw [flg_e h];exact ok_eq (by rw [h0, <- hc]) rfl
 ·rw [if_neg h0] at h ⊢;have hd : l.drop i = 119 :: (woW f ++ 10 :: r) := h;rw [flg_w hd, fil_of c (hf.resolve_left h0) (drop_one hd), List.length_cons, show i + 1 + (woW f).length = i + ((woW f).length + 1) by omega]
theorem flg_2 (hc : c.fl = []) (hp : c.pr = false) (hf : f = [] \/ Fi f) (h : l.drop i = ((if pr = true then [112] else []) ++ (if f = [] then [] else 119 :: woW f)) ++ 10 :: r) : flgR l (n + 1 + 1) c i = .ok ({ c with pr := pr, fl := f }, i + ((if pr = true then [112] else []) ++ (if f = [] then [] else 119 :: woW f)).length) := by
 cases pr with
 | true =>
  have hd : l.drop i = 112 :: ((if f = [] then [] else 119 :: woW f) ++ 10 :: r) := h;rw [flg_p hd hp, flg_3 (c := { c with pr := true }) hc hf (drop_one hd)];exact ok_eq rfl (by simp only [if_true, List.length_append, List.length_singleton]; omega)
 | false =>
  rw [flg_3 hc hf h];exact ok_eq (by rw [<- hp]) rfl
theorem flg_1 {an : Bool} (hc : c.fl = []) (hp : c.pr = false) (ha : c.an = false) (hf : f = [] \/ Fi f) (h : l.drop i = ((if an = true then [103] else []) ++ ((if pr = true then [112] else []) ++ (if f = [] then [] else 119 :: woW f))) ++ 10 :: r) : flgR l (n + 1 + 1 + 1) c i = .ok ({ c with an := an, pr := pr, fl := f }, i + ((if an = true then [103] else []) ++ ((if pr = true then [112] else []) ++ (if f = [] then [] else 119 :: woW f))).length) := by
 cases an with
 | true =>
  have hd : l.drop i = 103 :: (((if pr = true then [112] else []) ++ (if f = [] then [] else 119 :: woW f)) ++ 10 :: r) := h;rw [flg_g hd ha, flg_2 (c := { c with an := true }) hc hp hf (drop_one hd)];exact ok_eq rfl (by simp only [if_true, List.length_append, List.length_singleton]; omega)
 | false =>
  rw [flg_2 hc hp hf h];exact ok_eq (by rw [<- ha]) rfl
theorem flg_hd (an pr : Bool) (f r : List UInt8) : ∃ b q, ((if an = true then [103] else []) ++ ((if pr = true then [112] else []) ++ (if f = [] then [] else 119 :: woW f))) ++ 10 :: r = b :: q /\ isDg b = false := by
 cases an
 ·cases pr
  ·by_cases h : f = []
   ·exact ⟨10, r, by simp [h], by decide⟩
   ·exact ⟨119, _, by rw [if_neg h]; rfl, by decide⟩
  ·exact ⟨112, _, rfl, by decide⟩
 ·exact ⟨103, _, rfl, by decide⟩
theorem flg_of {d : Co} (hc : c.fl = []) (hp : c.pr = false) (ha : c.an = false) (hn : c.nh = 0) (hf : d.fl = [] \/ Fi d.fl) (h1 : 1 <= d.nh) (h2 : d.nh <= 512) (h : l.drop i = flW d ++ 10 :: r) : ∃ m, max m 1 = d.nh /\ flgR l (n + 1 + 1 + 1 + 1) c i = .ok ({ c with nh := m, an := d.an, pr := d.pr, fl := d.fl }, i + (flW d).length) := by
 unfold flW at h ⊢;by_cases h0 : d.nh = 1
 ·rw [if_pos h0, List.nil_append] at h ⊢;refine ⟨0, by omega, ?_⟩;rw [flg_1 hc hp ha hf h];exact ok_eq (by rw [<- hn]) rfl
 ·rw [if_neg h0] at h ⊢;refine ⟨d.nh, by omega, ?_⟩;rw [List.append_assoc] at h;obtain ⟨b, q, e, hb⟩ := flg_hd d.an d.pr d.fl r;rw [flg_n (by rw [h, e]) hb hn h1 h2, flg_1 (c := { c with nh := d.nh }) hc hp ha hf (drop_of h)];exact ok_eq rfl (by simp only [List.length_append]; omega)
theorem pc_eN : ∀ t : List UInt8, pcB false (eN [92, 110] t) = true
 | [] => rfl
 | b :: r => by
  have ih := pc_eN r;unfold eN;split
  ·exact (pc_two false (.inl (by decide)) _).trans ih
  ·split
   ·exact (pc_two false (.inl (by decide)) _).trans ih
   ·rename_i h1 h2; exact (pc_one false h2 h1 _).trans ih
theorem pc_back : ∀ (t : List UInt8) (k : Nat) (acc : List UInt8), pcR (eN [92, 110] t) k acc = (acc ++ t, 0, 0)
 | [], k, acc => by rw [eN, pc_nil, List.append_nil]
 | b :: r, k, acc => by
  have key : ∀ k', pcR (eN [92, 110] r) k' (acc ++ [b]) = (acc ++ b :: r, 0, 0) := fun k' => by rw [pc_back r k']; simp
  unfold eN;split
  ·rename_i hb;refine (pc_esc 92 92 _ k acc (by decide) (by decide) (by unfold alnB; decide)).trans ?_;rw [hb] at key ⊢;exact key _
  ·split
   ·rename_i hb;refine (pc_n 92 110 _ k acc (by decide) (by decide)).trans ?_;rw [hb] at key ⊢;exact key _
   ·rename_i h1 h2;refine (pc_pl b _ k acc (fun e => h1 (UInt8.toNat_inj.1 e))).trans (key _)
theorem sid_of {p : Nat} {d : UInt8} {t : List UInt8} (h : l.drop i = eN [92, 110] t ++ d :: r) (hd : d ≠ 10 /\ d ≠ 92) (hn : (eN [92, 110] t).contains d = false) : sidR l d p i = .ok (t, i + (eN [92, 110] t).length + 1) := by
 unfold sidR;rw [pie_of h hd (pc_eN t) hn];simp only;unfold xd7;rw [pc_back, List.nil_append];rfl
def beg (c : Co) (p : Nat) : Co := { co0 with pl := p, a := c.a, b := c.b, nt := c.nt, nm := c.nm }
theorem beg_end {G : Gr} (hw : WfC G c) (p : Nat) (hk : kd c.nm = 0) : beg c p = { c with pl := p } := by
 unfold kd at hk;have n1 : ¬ (c.nm = 97 \/ c.nm = 105 \/ c.nm = 99) := fun e => by rw [if_pos e] at hk; cases hk
 rw [if_neg n1] at hk;have n2 : ¬ (c.nm = 58 \/ c.nm = 98 \/ c.nm = 116) := fun e => by rw [if_pos e] at hk; cases hk
 rw [if_neg n2] at hk;have n3 : ¬ (c.nm = 114 \/ c.nm = 119) := fun e => by rw [if_pos e] at hk; cases hk
 rw [if_neg n3] at hk;have n4 : ¬ c.nm = 115 := fun e => by rw [if_pos e] at hk; cases hk
 rw [if_neg n4] at hk;have n5 : ¬ c.nm = 121 := fun e => by rw [if_pos e] at hk; cases hk
 have F := hw.fo;have f1 := F.lb (fun e => n2 (.inl e)) (fun e => n2 (.inr (.inl e))) (fun e => n2 (.inr (.inr e)));have f2 := F.tx (fun e => n1 (.inl e)) (fun e => n1 (.inr (.inl e))) (fun e => n1 (.inr (.inr e)));have f3 := F.fl (fun e => n3 (.inl e)) (fun e => n3 (.inr e)) n4;obtain ⟨f4, f5⟩ := F.fr n5;obtain ⟨g1, g2, g3, g4, g5⟩ := F.sd n4;obtain ⟨pl, a, b, nt, nm, lb, tx, fl, re, ps, nh, an, pr, fr, to⟩ := c;simp only at *;subst f1 f2 f3 f4 f5 g1 g2 g3 g4 g5;rfl
end sho
end Go.Proofs.YtidgnebbibkmhaaGreatDoor
namespace Go.Proofs.YtidgnebbibkmhaaGreatDoor
open Go.RowKit
open scanP scrP tpl ytb
namespace sho
structure FK (c : Co) : Prop where
 lb : kd c.nm ≠ 2 -> c.lb = []
 tx : kd c.nm ≠ 1 -> c.tx = []
 fl : kd c.nm ≠ 3 -> kd c.nm ≠ 4 -> c.fl = []
 fr : kd c.nm ≠ 5 -> c.fr = [] /\ c.to = []
 sd : kd c.nm ≠ 4 -> c.re = [] /\ c.ps = [] /\ c.nh = 0 /\ c.an = false /\ c.pr = false
theorem kd_not {n m : UInt8} {k : Nat} (h : kd m = k) (hn : kd n ≠ k) : n ≠ m := fun e => hn (by rw [e, h])
variable {c : Co} {G : Gr} {l r t : List UInt8} {i : Nat}
theorem fk_of (F : FO c) : FK c :=
 ⟨fun h => F.lb (kd_not rfl h) (kd_not rfl h) (kd_not rfl h), fun h => F.tx (kd_not rfl h) (kd_not rfl h) (kd_not rfl h), fun h h' => F.fl (kd_not rfl h) (kd_not rfl h) (kd_not rfl h'), fun h => F.fr (kd_not rfl h), fun h => F.sd (kd_not rfl h)⟩
theorem co_ext (c : Co) (p : Nat) {lb tx fl re fr to : List UInt8} {ps : List Pt} {nh : Nat} {an pr : Bool} (h1 : c.lb = lb) (h2 : c.tx = tx) (h3 : c.fl = fl) (h4 : c.re = re) (h5 : c.ps = ps) (h6 : c.nh = nh) (h7 : c.an = an) (h8 : c.pr = pr) (h9 : c.fr = fr) (h10 : c.to = to) : (⟨p, c.a, c.b, c.nt, c.nm, lb, tx, fl, re, ps, nh, an, pr, fr, to⟩ : Co) = { c with pl := p } := by
 subst h1 h2 h3 h4 h5 h6 h7 h8 h9 h10;rfl
theorem rst_of {p : Nat} {z : List UInt8} (hw : WfC G c) (hz : rsW c = some z) (hl : l.length <= 4096) (h : l.drop i = z ++ 10 :: r) : ∃ k, rstR G l (beg c p) i = .ok ({ c with pl := p }, k) /\ (k = i + z.length \/ k = i + z.length + 1) := by
 have F := fk_of hw.fo;have en : (beg c p).nm = c.nm := rfl;unfold rsW at hz;unfold rstR;rw [en];by_cases h2 : c.nm = 97 \/ c.nm = 105 \/ c.nm = 99
 ·have hk : kd c.nm = 1 := by unfold kd; rw [if_pos h2]
  obtain ⟨f4, f5⟩ := F.fr (by rw [hk]; decide);obtain ⟨g1, g2, g3, g4, g5⟩ := F.sd (by rw [hk]; decide);obtain ⟨y, hy⟩ := hw.fo.te h2;have ey : trN c.tx = y := by unfold trN; rw [hy]; simp
  rw [if_pos h2, ey] at hz;cases hz;rw [if_neg (by rintro e; rw [e] at h2; revert h2; decide), if_pos h2, text_of _ h];refine ⟨_, ok_eq ?_ rfl, .inr (by simp only [List.length_cons])⟩;exact co_ext c p (F.lb (by rw [hk]; decide)) hy (F.fl (by rw [hk]; decide) (by rw [hk]; decide)) g1 g2 g3 g4 g5 f4 f5
 rw [if_neg h2] at hz;by_cases h3 : c.nm = 58 \/ c.nm = 98 \/ c.nm = 116
 ·have hk : kd c.nm = 2 := by unfold kd; rw [if_neg h2, if_pos h3]
  obtain ⟨f4, f5⟩ := F.fr (by rw [hk]; decide);obtain ⟨g1, g2, g3, g4, g5⟩ := F.sd (by rw [hk]; decide);obtain ⟨l1, l2, l3⟩ := hw.lb hk;rw [if_pos h3] at hz;cases hz;rw [if_neg (by rintro e; rw [e] at h3; revert h3; decide), if_neg h2, if_pos h3];unfold labC labR;rw [word_of l1 h, if_neg (by rintro (e | ⟨e1, e2⟩); exact absurd e (by show ¬ 32 < c.lb.length; omega); exact l3 e1 e2)];refine ⟨_, ok_eq ?_ rfl, .inl rfl⟩;exact co_ext c p rfl (F.tx (by rw [hk]; decide)) (F.fl (by rw [hk]; decide) (by rw [hk]; decide)) g1 g2 g3 g4 g5 f4 f5
 rw [if_neg h3] at hz;by_cases h4 : c.nm = 114 \/ c.nm = 119
 ·have hk : kd c.nm = 3 := by unfold kd; rw [if_neg h2, if_neg h3, if_pos h4]
  obtain ⟨f4, f5⟩ := F.fr (by rw [hk]; decide);obtain ⟨g1, g2, g3, g4, g5⟩ := F.sd (by rw [hk]; decide);rw [if_pos h4] at hz;cases hz;rw [if_neg (by rintro e; rw [e] at h4; revert h4; decide), if_neg h2, if_neg h3, if_pos h4, fil_of _ (hw.fl hk) h];refine ⟨_, ok_eq ?_ rfl, .inl rfl⟩;exact co_ext c p (F.lb (by rw [hk]; decide)) (F.tx (by rw [hk]; decide)) rfl g1 g2 g3 g4 g5 f4 f5
 rw [if_neg h4] at hz;by_cases h5 : c.nm = 115
 ·have hk : kd c.nm = 4 := by rw [h5]; decide
  obtain ⟨f4, f5⟩ := F.fr (by rw [hk]; decide);obtain ⟨s1, s2, s3, s4, s5⟩ := hw.sd hk;obtain ⟨n1, n2⟩ := hw.fo.nh h5;rw [if_pos h5] at hz;rw [if_neg (by rw [h5]; decide), if_neg h2, if_neg h3, if_neg h4, if_pos h5];unfold btw at hz;cases hd : dlm [c.re, psW c.ps] with
  | none => rw [hd] at hz; cases hz
  | some d =>
   rw [hd] at hz;cases hz;obtain ⟨d1, d2⟩ := dlm_ok hd;have hd1 : l.drop i = d :: (c.re ++ d :: (psW c.ps ++ d :: (flW c ++ 10 :: r))) := by rw [h]; simp [bws]
   have hd2 := drop_one hd1;have hd3 : l.drop (i + 1 + c.re.length + 1) = psW c.ps ++ d :: (flW c ++ 10 :: r) := drop_one (drop_of hd2);have hd4 : l.drop (i + 1 + c.re.length + 1 + (psW c.ps).length + 1) = flW c ++ 10 :: r := drop_one (drop_of hd3);have hln := congrArg List.length hd1;rw [List.length_drop] at hln;simp only [List.length_cons, List.length_append] at hln;obtain ⟨p1, p2⟩ := psW_ok s3;obtain ⟨p3, p4⟩ := p2 (by omega);unfold sedR;rw [del_of hd1 d1];simp only;rw [pie_of hd2 d1 s1 (d2 _ (by simp))];simp only;rw [pie_of hd3 d1 p1 (d2 _ (by simp))];simp only [grpR, s2, if_true];rw [if_neg (by rw [p3]; simp), if_neg (by rw [p4]; rintro ⟨e1, e2⟩; have := s4 e1; omega), p4];obtain ⟨n, hn⟩ : ∃ n, l.length + 1 = n + 1 + 1 + 1 + 1 := ⟨l.length - 3, by omega⟩;obtain ⟨m, hm, he⟩ := flg_of (n := n) (c := { beg c p with re := c.re, ps := c.ps }) (d := c) rfl rfl rfl rfl s5 n1 n2 hd4;rw [hn, he];simp only;refine ⟨_, ok_eq ?_ rfl, .inl ?_⟩
   ·exact co_ext c p (F.lb (by rw [hk]; decide)) (F.tx (by rw [hk]; decide)) rfl rfl rfl hm.symm rfl rfl f4 f5
   ·simp [bws]; omega
 rw [if_neg h5] at hz;by_cases h6 : c.nm = 121
 ·have hk : kd c.nm = 5 := by rw [h6]; decide
  obtain ⟨g1, g2, g3, g4, g5⟩ := F.sd (by rw [hk]; decide);rw [if_pos h6] at hz;rw [if_neg (by rw [h6]; decide), if_neg h2, if_neg h3, if_neg h4, if_neg h5, if_pos h6];unfold btw at hz;cases hd : dlm [eN [92, 110] c.fr, eN [92, 110] c.to] with
  | none => rw [hd] at hz; cases hz
  | some d =>
   rw [hd] at hz;cases hz;obtain ⟨d1, d2⟩ := dlm_ok hd;have hd1 : l.drop i = d :: (eN [92, 110] c.fr ++ d :: (eN [92, 110] c.to ++ d :: (10 :: r))) := by rw [h]; simp [bws]
   have hd2 := drop_one hd1;have hd3 : l.drop (i + 1 + (eN [92, 110] c.fr).length + 1) = eN [92, 110] c.to ++ d :: (10 :: r) := drop_one (drop_of hd2);have hd4 : l.drop (i + 1 + (eN [92, 110] c.fr).length + 1 + (eN [92, 110] c.to).length + 1) = 10 :: r := drop_one (drop_of hd3);unfold tabR;rw [del_of hd1 d1];simp only;rw [sid_of hd2 d1 (d2 _ (by simp))];simp only;rw [sid_of hd3 d1 (d2 _ (by simp))];simp only;rw [if_neg (by rw [hw.yt hk]; rintro (e | e); exact e hw.fo.ft; cases e)];simp only;rw [end_of _ hd4];refine ⟨_, ok_eq ?_ rfl, .inl (by simp [bws]; omega)⟩;exact co_ext c p (F.lb (by rw [hk]; decide)) (F.tx (by rw [hk]; decide)) (F.fl (by rw [hk]; decide) (by rw [hk]; decide)) g1 g2 g3 g4 g5 rfl rfl
 rw [if_neg h6] at hz;cases hz;have hk : kd c.nm = 0 := by unfold kd; rw [if_neg h2, if_neg h3, if_neg h4, if_neg h5, if_neg h6]
 rw [<- beg_end hw p hk];by_cases h1 : c.nm = 123
 ·rw [if_pos h1]; exact ⟨_, rfl, .inl rfl⟩
 rw [if_neg h1, if_neg h2, if_neg h3, if_neg h4, if_neg h5, if_neg h6];have hn : plnS.contains c.nm = true := by
  have := hw.nm;unfold nmS at this;simp only [List.contains_eq_any_beq, List.any_append, Bool.or_eq_true] at this ⊢;rcases this with e | e
  ·exfalso;simp only [List.any_cons, List.any_nil, Bool.or_false, Bool.or_eq_true, beq_iff_eq] at e;rcases e with e | e | e | e | e | e | e | e | e | e | e
   ·exact h1 e
   ·exact h2 (.inl e)
   ·exact h2 (.inr (.inl e))
   ·exact h2 (.inr (.inr e))
   ·exact h3 (.inl e)
   ·exact h3 (.inr (.inl e))
   ·exact h3 (.inr (.inr e))
   ·exact h4 (.inl e)
   ·exact h4 (.inr e)
   ·exact h5 e
   ·exact h6 e
  ·exact e
 rw [if_pos hn, end_of _ h];exact ⟨_, rfl, .inl rfl⟩
theorem cmd_of (hw : WfC G c) (ht : cmW c = some t) (hl : l.length <= 4096) (h : l.drop i = t ++ r) : ∃ p k, cmdR G l i = .ok ({ c with pl := p }, k) /\ (l.drop k = 10 :: r \/ l.drop k = r) /\ k <= l.length := by
 unfold cmW at ht;split at ht
 ·rename_i x y z hx hy hz;cases ht;obtain ⟨s1, s2⟩ := nm_sg hw.nm;have h' : l.drop i = x ++ (y ++ (ntW c ++ c.nm :: (z ++ 10 :: r))) := by rw [h]; simp
  have h2 : twoA G l i = .ok (c.a, c.b, i + (x.length + y.length)) := by
   unfold ntW at h';cases hn : c.nt with
   | true => rw [hn] at h'; exact two_of hw hx hy h' (by decide)
   | false => rw [hn] at h'; exact two_of hw hx hy h' s1
  have h3 : l.drop (i + (x.length + y.length)) = ntW c ++ c.nm :: (z ++ 10 :: r) := by
   rw [<- Nat.add_assoc]; exact drop_of (drop_of h')
  have h4 := drop_of h3;have h5 := drop_one h4;obtain ⟨k, hk, hk2⟩ := rst_of (p := i + (x.length + y.length) + (ntW c).length) hw hz hl h5;refine ⟨i + (x.length + y.length) + (ntW c).length, k, ?_, ?_⟩
  ·unfold cmdR;rw [h2];simp only;rw [not_of h3 hw.nm];simp only;rw [get_of h4];exact hk
  ·have h6 := drop_of h5;have h7 := le_of h6;rcases hk2 with rfl | rfl
   ·exact ⟨.inl h6, by omega⟩
   ·exact ⟨.inr (drop_one h6), by omega⟩
 ·cases ht
theorem cmW_hd (hw : WfC G c) (ht : cmW c = some t) : ∃ b q, t = b :: q /\ [32, 9, 10, 59, 35].contains b = false := by
 unfold cmW at ht;split at ht
 ·rename_i x y z hx hy hz;cases ht;by_cases h0 : c.a.k = 0
  ·have ex : x = [] := by unfold adW at hx; rw [h0] at hx; simpa using hx.symm
   have ey : y = [] := by unfold abW at hy; rw [if_pos (hw.fo.ad h0)] at hy; simpa using hy.symm
   subst ex ey;unfold ntW;cases c.nt with
   | true => exact ⟨33, _, rfl, by decide⟩
   | false =>
    obtain ⟨-, -, -, -, -, s6, s7, s8, s9, s10⟩ := sg_all (nm_sg hw.nm).1;exact ⟨c.nm, _, rfl, by simp [s6, s7, s8, s9, s10]⟩
  ·obtain ⟨b, q, e, hb⟩ := adW_hd hw.a h0 hx;exact ⟨b, _, by rw [e]; rfl, hb⟩
 ·cases ht
def nfC (c : Co) : Co := { c with pl := 0 }
theorem alW_acc : ∀ (cs : List Co) (l T : List UInt8), alW cs l = .ok T -> ∃ b, T = l ++ b /\ ∀ m, alW cs m = .ok (m ++ b)
 | [], l, T, h => by cases h; exact ⟨[], by simp, fun m => by simp [alW]⟩
 | c :: r, l, T, h => by
  unfold alW at h;cases hc : cmW c with
  | none => rw [hc] at h; cases h
  | some t =>
   rw [hc] at h;obtain ⟨b, e, hb⟩ := alW_acc r _ _ h;exact ⟨t ++ b, by rw [e, List.append_assoc], fun m => by rw [alW, hc]; simp only; rw [hb, List.append_assoc]⟩
theorem al_skip (G : Gr) {x : List UInt8} (acc : List Co) (h : l.drop i = 10 :: x) : alF G l i acc = alF G l (i + 1) acc := by
 have hi := le_of h;rw [xqp G l i acc (by omega), xqp G l (i + 1) acc (by omega), xqo l i (by omega), if_neg (by omega), mt_of h, if_pos (by decide)]
theorem all_of (hl : l.length <= 4096) : ∀ (cs : List Co) (body : List UInt8), (∀ c ∈ cs, WfC G c) -> alW cs [] = .ok body -> ∀ (i : Nat) (acc : List Co), i <= l.length -> l.drop i = body -> ∃ ds, ds.map nfC = cs.map nfC /\ alF G l i acc = .ok (acc ++ ds)
 | [], body, _, h, i, acc, hi, hd => by
  cases h;refine ⟨[], rfl, ?_⟩;have : l.length <= i := by have := congrArg List.length hd; rw [List.length_drop] at this; simp at this; omega
  rw [xqp G l i acc hi, xqo l i hi, if_pos this];simp
 | c :: r, body, hw, h, i, acc, hi, hd => by
  unfold alW at h;cases hc : cmW c with
  | none => rw [hc] at h; cases h
  | some t =>
   rw [hc] at h;obtain ⟨b, e, hb⟩ := alW_acc r _ _ h;rw [List.nil_append] at e;have hwc := hw c List.mem_cons_self;obtain ⟨x, q, et, hx⟩ := cmW_hd hwc hc;rw [e] at hd;have hd2 : l.drop i = x :: (q ++ b) := by rw [hd, et]; rfl
   obtain ⟨p, k, h1, h2, h3⟩ := cmd_of hwc hc hl hd;have e1 : alF G l i acc = alF G l k (acc ++ [{ c with pl := p }]) := by
    have hx1 : [32, 9, 10, 59].contains x = false /\ [35].contains x = false := by
     have := u8_all (p := fun b => ([32, 9, 10, 59, 35] : List UInt8).contains b || (!([32, 9, 10, 59] : List UInt8).contains b && !([35] : List UInt8).contains b)) (by decide +kernel) x;rw [hx] at this;simpa using this
    rw [xqp G l i acc hi, xqo l i hi, if_neg (by have := le_of hd2; omega), mt_of hd2, hx1.1, if_neg (by simp), mt_of hd2, hx1.2, if_neg (by simp)];simp only;rw [h1]
   have key : ∀ j, j <= l.length -> l.drop j = b -> alF G l k (acc ++ [{ c with pl := p }]) = alF G l j (acc ++ [{ c with pl := p }]) -> ∃ ds, ds.map nfC = (c :: r).map nfC /\ alF G l i acc = .ok (acc ++ ds) := fun j hj hj2 hj3 => by
    obtain ⟨ds, g1, g2⟩ := all_of hl r b (fun d hd => hw d (List.mem_cons_of_mem _ hd)) (by rw [hb, List.nil_append]) j (acc ++ [{ c with pl := p }]) hj hj2;exact ⟨{ c with pl := p } :: ds, by rw [List.map_cons, List.map_cons, g1]; rfl, by rw [e1, hj3, g2]; simp⟩
   rcases h2 with h2 | h2
   ·exact key (k + 1) (by have := le_of h2; omega) (drop_one h2) (al_skip G _ h2)
   ·exact key k h3 h2 rfl
theorem scr_back {T : List UInt8} (h0 : (scrR G l).2.2.1 = 0) (h : alW (scrR G l).1 (if (scrR G l).2.1 = true then [35, 110, 10] else []) = .ok T) (hT : T.length <= 4096) : ∃ ds, ds.map nfC = (scrR G l).1.map nfC /\ scrR G T = (ds, (scrR G l).2.1, 0, 0) := by
 have hw := scr_wf h0;obtain ⟨b, e, hb⟩ := alW_acc _ _ _ h;have hb0 := hb [];rw [List.nil_append] at hb0;cases hq : (scrR G l).2.1 with
 | true =>
  rw [hq, if_pos rfl] at e;have hd : T.drop 0 = 35 :: (110 :: 10 :: b) := e;have hd2 : T.drop 2 = 10 :: b := by rw [e]; rfl
  have hd3 : T.drop 3 = b := by rw [e]; rfl
  have h2 := le_of hd2;obtain ⟨ds, g1, g2⟩ := all_of hT _ b hw hb0 3 [] (by omega) hd3;refine ⟨ds, g1, ?_⟩;have hl : xbi T 0 = ([35, 110], 2) := by
   unfold xbi;rw [bl_of hd (by decide)];simp only;rw [hd];simp [lnN]
  have hq2 : quiB T = true := by rw [e]; unfold quiB; simp [lnN]
  have hc : cmF T 0 = cmF T 2 := by
   rw [xqo T 0 (by omega), if_neg (by omega), mt_of hd, if_neg (by decide), mt_of hd, if_pos (by decide), hl]
  have h3 : alF G T 0 [] = alF G T 2 [] := by rw [xqp G T 0 [] (by omega), xqp G T 2 [] (by omega), hc]
  rw [xqz G T hT, h3, al_skip G [] hd2, g2, hq2];rfl
 | false =>
  rw [hq, if_neg (by simp), List.nil_append] at e;subst e;obtain ⟨ds, g1, g2⟩ := all_of hT _ T hw hb0 0 [] (by omega) rfl;refine ⟨ds, g1, ?_⟩;have hq2 : quiB T = false := by
   unfold quiB;cases hcs : (scrR G l).1 with
   | nil => rw [hcs] at hb0; cases hb0; simp [lnN]
   | cons c r =>
    rw [hcs] at hb0 hw;unfold alW at hb0;cases hc : cmW c with
    | none => rw [hc] at hb0; cases hb0
    | some t =>
     rw [hc] at hb0;obtain ⟨b, e, -⟩ := alW_acc r _ _ hb0;obtain ⟨x, q, et, hx⟩ := cmW_hd (hw c List.mem_cons_self) hc;rw [e, et];have hx2 : x ≠ 35 := by rintro rfl; revert hx; decide
     show decide ((x :: (q ++ b)).take (lnN (x :: (q ++ b))) = [35, 110]) = false
     unfold lnN;split
     ·simp
     ·rw [List.take_succ_cons, decide_eq_false_iff_not];intro e; exact hx2 (List.cons.inj e).1
  rw [xqz G T hT, g2, hq2];rfl
theorem alW_nf : ∀ (cs ds : List Co) (l : List UInt8), ds.map nfC = cs.map nfC -> ∀ T, alW cs l = .ok T -> alW ds l = .ok T
 | [], ds, l, h, T, hT => by
  cases ds with
  | nil => exact hT
  | cons d ds => cases h
 | c :: r, ds, l, h, T, hT => by
  cases ds with
  | nil => cases h
  | cons d ds =>
   rw [List.map_cons, List.map_cons] at h;obtain ⟨h1, h2⟩ := List.cons.inj h;have e : cmW (nfC d) = cmW (nfC c) := congrArg cmW h1;replace e : cmW d = cmW c := e;unfold alW at hT ⊢;rw [e];cases hc : cmW c with
   | none => rw [hc] at hT; cases hT
   | some t =>
    rw [hc] at hT;exact alW_nf r ds _ h2 T hT
theorem shR_ok (h : (shR G l).2.1 = 0) : (scrR G l).2.2.1 = 0 /\ alW (scrR G l).1 (if (scrR G l).2.1 = true then [35, 110, 10] else []) = .ok (shR G l).1 /\ shR G l = ((shR G l).1, 0, 0) := by
 unfold shR at h ⊢;by_cases h0 : (scrR G l).2.2.1 ≠ 0
 ·rw [if_pos h0] at h; exact absurd h h0
 ·rw [if_neg h0] at h ⊢;refine ⟨Decidable.not_not.1 h0, ?_⟩;generalize alW (scrR G l).1 (if (scrR G l).2.1 = true then [35, 110, 10] else []) = R at h ⊢;cases R with
  | error p => simp at h
  | ok t => exact ⟨rfl, rfl⟩
theorem show_back (h : (shR G l).2.1 = 0) (hT : (shR G l).1.length <= 4096) : shR G (shR G l).1 = ((shR G l).1, 0, 0) /\ ∃ ds, ds.map nfC = (scrR G l).1.map nfC /\ scrR G (shR G l).1 = (ds, (scrR G l).2.1, 0, 0) := by
 obtain ⟨h1, h2, -⟩ := shR_ok h;obtain ⟨ds, g1, g2⟩ := scr_back h1 h2 hT;refine ⟨?_, ds, g1, g2⟩;generalize (shR G l).1 = T at *;unfold shR;rw [g2];simp only [ne_eq, not_true, if_false];rw [alW_nf _ ds _ g1 _ h2]
theorem show_ones {a b : List UInt8} (ha : (shR G a).2.1 = 0) (hb : (shR G b).2.1 = 0) (la : (shR G a).1.length <= 4096) (lb : (shR G b).1.length <= 4096) : (shR G a).1 = (shR G b).1 ↔ (scrR G a).2.1 = (scrR G b).2.1 /\ (scrR G a).1.map nfC = (scrR G b).1.map nfC := by
 constructor
 ·intro e;obtain ⟨-, ds, g1, g2⟩ := show_back ha la;obtain ⟨-, es, g3, g4⟩ := show_back hb lb;rw [e, g4] at g2;obtain ⟨rfl, e2⟩ := Prod.mk.inj g2;exact ⟨(Prod.mk.inj e2).1.symm, by rw [<- g1, g3]⟩
 ·rintro ⟨e1, e2⟩;obtain ⟨-, h1, -⟩ := shR_ok ha;obtain ⟨-, h2, -⟩ := shR_ok hb;rw [e1] at h1;have := alW_nf _ _ _ e2 _ h2;rw [this] at h1;exact (Except.ok.inj h1).symm
end sho
end Go.Proofs.YtidgnebbibkmhaaGreatDoor
namespace Go.Proofs.YtidgnebbibkmhaaGreatDoor
open Go.RowKit
open scanP scrP tpl ytb
namespace sho
def bulkP : List Pt -> Nat
 | [] => 0
 | p :: r => p.t.size + 3 + bulkP r
theorem bulkP_len (l : List Pt) : l.length * 3 <= bulkP l := by
 induction l with
 | nil => simp
 | cons q r ih => simp only [bulkP, List.length_cons]; omega
theorem bulk_app (l m : List Pt) : bulkP (l ++ m) = bulkP l + bulkP m := by
 induction l with
 | nil => simp [bulkP]
 | cons p r ih => simp only [List.cons_append, bulkP, ih]; omega
def wtG (x : Ga) : Nat := bulkP x.ps + x.bs.length + (if x.bs = [] then 0 else 3)
theorem bulk_out (x : Ga) : bulkP x.out.ps = wtG x := by
 unfold Ga.out wtG;split
 ·rename_i h;rw [h];simp
 ·rw [bulk_app];simp only [bulkP, xbt];omega
theorem wt_plain (x : Ga) (b : UInt8) : wtG (x.plain b) <= wtG x + 4 := by
 unfold wtG Ga.plain;simp only [List.length_append, List.length_singleton];split <;> split <;> omega
theorem wt_group (x : Ga) (n : Int) : wtG (x.group n) <= wtG x + 4 := by
 have := bulk_out x;unfold Ga.group;conv => lhs; unfold wtG
 simp only [bulk_app, bulkP, xbt, List.length_nil, if_true];omega
theorem wt_esc (x : Ga) (c : UInt8) : wtG (x.esc c) <= wtG x + 4 := by
 unfold Ga.esc;split
 ·exact wt_group _ _
 ·split <;> exact wt_plain _ _
theorem run_wt : ∀ (l : List UInt8) (k : Nat) (x : Ga), bulkP (runP l k x).1.ps <= wtG x + 4 * l.length
 | [], k, x => by rw [xlz, bulk_out]; omega
 | b :: r, k, x => by
  by_cases c1 : b.toNat = 38
  ·rw [xl0 _ _ _ _ c1];have h1 := run_wt r (k + 1) (x.group 0);have h2 := wt_group x 0;simp only [List.length_cons]; omega
  ·by_cases c2 : b.toNat = 10
   ·rw [xol _ _ _ _ c2]; simp [bulkP]
   ·by_cases c3 : b.toNat = 92
    ·cases r with
     | nil => rw [xl1 _ _ _ c3]; simp [bulkP]
     | cons c q =>
      rw [xl2 _ _ _ _ _ c3];have h1 := run_wt q (k + 2) (x.esc c);have h2 := wt_esc x c;simp only [List.length_cons]; omega
    ·rw [xom _ _ _ _ c1 c2 c3];have h1 := run_wt r (k + 1) (x.plain b);have h2 := wt_plain x b;simp only [List.length_cons]; omega
 termination_by l => l.length
theorem parse_wt (s : List UInt8) : bulkP (xap s).1.ps <= 16384 := by
 unfold xap;split
 ·simp [bulkP]
 ·have := run_wt s 0 ⟨[], []⟩;simp only [wtG, bulkP, List.length_nil, if_true] at this;omega
structure SzC (c : Co) : Prop where
 ak : c.a.k <= 3
 bk : c.b.k <= 3
 al : c.a.ln <= 1000000000
 bl : c.b.ln <= 1000000000
 nh : c.nh <= 1000000000
 ar : c.a.re.length <= 5000
 br : c.b.re.length <= 5000
 lb : c.lb.length <= 5000
 tx : c.tx.length <= 5000
 fl : c.fl.length <= 5000
 re : c.re.length <= 5000
 fr : c.fr.length <= 5000
 to : c.to.length <= 5000
 ps : bulkP c.ps <= 30000
variable {G : Gr} {l : List UInt8} {i k : Nat} {a : Adr} {c : Co}
theorem mat_sz {p : Nat} (h : matR G l p i = .ok (a, k)) : a.re.length <= l.length := by
 unfold matR at h;split at h
 ·cases h
 rename_i hd;split at h
 ·cases h
 rename_i hp;split at h
 ·cases h
 cases h;exact (xbd hp (xb4 hd).2.1).1
theorem one_sz2 (h : oneA G l i = .ok (a, k)) : a.re.length <= l.length := by
 unfold oneA at h;split at h
 ·unfold linR at h;split at h
  ·cases h
  ·cases h; exact Nat.zero_le _
 ·split at h
  ·cases h; exact Nat.zero_le _
  ·split at h
   ·exact mat_sz h
   ·split at h
    ·exact mat_sz h
    ·cases h; exact Nat.zero_le _
theorem two_sz2 {b : Adr} (h : twoA G l i = .ok (a, b, k)) : a.re.length <= l.length /\ b.re.length <= l.length := by
 unfold twoA at h;split at h
 ·cases h
 ·rename_i ho;split at h
  ·cases h; exact ⟨one_sz2 ho, Nat.zero_le _⟩
  ·split at h
   ·split at h
    ·cases h
    ·rename_i h2;split at h
     ·cases h
     ·cases h; exact ⟨one_sz2 ho, one_sz2 h2⟩
   ·cases h; exact ⟨one_sz2 ho, Nat.zero_le _⟩
theorem fil_sz {d : Co} (h : filC l c i = .ok (d, k)) : ∃ t, d = { c with fl := t } /\ t.length <= l.length := by
 unfold filC filR at h;split at h
 ·cases h
 ·rename_i hf;split at hf
  ·have e := Except.ok.inj hf;cases h;refine ⟨_, rfl, ?_⟩;have h2 : (xbi l i).1.length <= l.length := by unfold xbi; simp only [List.length_take, List.length_drop]; omega
   rw [e] at h2;exact h2
  ·cases hf
theorem flg_sz : ∀ (n : Nat) {c d : Co} {i k : Nat}, flgR l n c i = .ok (d, k) -> d.fl.length <= max c.fl.length l.length
 | 0, c, d, i, k, h => by cases h; omega
 | n + 1, c, d, i, k, h => by
  unfold flgR at h;split at h
  ·split at h
   ·cases h
   ·have := flg_sz n h; exact this
  ·split at h
   ·split at h
    ·cases h
    ·have := flg_sz n h; exact this
   ·split at h
    ·split at h
     ·cases h
     ·have := flg_sz n h; exact this
    ·split at h
     ·obtain ⟨t, rfl, ht⟩ := fil_sz h;show t.length <= _
      omega
     ·unfold endC at h;split at h
      ·cases h
      ·cases h; omega
theorem tx_sz : ∀ (r : List UInt8) (p : Nat) (t : List UInt8), (txR r p t).1.length <= t.length + r.length + 1
 | [], p, t => by simp [txR]
 | [b], p, t => by
  unfold txR;split
  ·simp
  ·split <;> simp
 | b :: c :: r, p, t => by
  unfold txR;split
  ·simp only [List.length_append, List.length_cons, List.length_nil]; omega
  ·split
   ·have := tx_sz r (p + 2) (t ++ [c]);simp only [List.length_append, List.length_cons, List.length_nil] at this ⊢; omega
   ·have := tx_sz (c :: r) (p + 1) (t ++ [b]);simp only [List.length_append, List.length_cons, List.length_nil] at this ⊢; omega
theorem rst_sz {d : Co} (hB : Bg c) (hl : l.length <= 4096) (ha : c.a.k <= 3 /\ c.b.k <= 3 /\ c.a.ln <= 1000000000 /\ c.b.ln <= 1000000000 /\ c.a.re.length <= 5000 /\ c.b.re.length <= 5000) (h : rstR G l c i = .ok (d, k)) : SzC d := by
 have Z : SzC c := ⟨ha.1, ha.2.1, ha.2.2.1, ha.2.2.2.1, by rw [hB.nh]; decide, ha.2.2.2.2.1, ha.2.2.2.2.2, by rw [hB.lb]; decide, by rw [hB.tx]; decide, by rw [hB.fl]; decide, by rw [hB.re]; decide, by rw [hB.fr]; decide, by rw [hB.to]; decide, by rw [hB.ps]; decide⟩;unfold rstR at h;split at h
 ·cases h; exact Z
 split at h
 ·unfold txtC txtR at h;split at h
  ·cases h
  ·rename_i ht;split at ht
   ·have e := Except.ok.inj ht;cases h;refine { Z with tx := ?_ };have h2 : (scanP.textR l i).1.length <= l.length + 1 := by
     unfold scanP.textR;simp only;split
     ·rename_i b c r hd;have hln := congrArg List.length hd;rw [List.length_drop] at hln;simp only [List.length_cons] at hln;split
      ·split
       ·simp
       ·have := tx_sz r (xab l i + 2) [];simp only [List.length_nil] at this; omega
      ·simp
     ·simp
    rw [(Prod.mk.inj e).1] at h2;exact Nat.le_trans h2 (by omega)
   ·cases ht
 split at h
 ·unfold labC labR at h;split at h
  ·cases h
  ·rename_i ht;split at ht
   ·cases ht
   ·rename_i hn;have e := Except.ok.inj ht;cases h;refine { Z with lb := ?_ };have h2 : ¬ 32 < (xcw l i).1.length := fun e => hn (.inl e);rw [e] at h2;exact Nat.le_trans (Nat.le_of_not_lt h2) (by decide)
 split at h
 ·obtain ⟨t, rfl, ht⟩ := fil_sz h;exact { Z with fl := by show t.length <= 5000; omega }
 split at h
 ·unfold sedR at h;split at h
  ·cases h
  rename_i hd;split at h
  ·cases h
  rename_i hp1;split at h
  ·cases h
  split at h
  ·cases h
  split at h
  ·cases h
  split at h
  ·cases h
  split at h
  ·cases h
  rename_i d' k' hf;cases h;have K := xen _ (by show c.nh <= 512; rw [hB.nh]; decide) hf;have X := flg_wf _ hf;have S := flg_sz _ hf;have hre := (xbd hp1 (xb4 hd).2.1).1;refine ⟨?_, ?_, ?_, ?_, ?_, ?_, ?_, ?_, ?_, ?_, ?_, ?_, ?_, ?_⟩
  ·show d'.a.k <= 3; rw [K.a]; exact Z.ak
  ·show d'.b.k <= 3; rw [K.b]; exact Z.bk
  ·show d'.a.ln <= _; rw [K.a]; exact Z.al
  ·show d'.b.ln <= _; rw [K.b]; exact Z.bl
  ·show max d'.nh 1 <= _; have := K.nh; omega
  ·show d'.a.re.length <= _; rw [K.a]; exact Z.ar
  ·show d'.b.re.length <= _; rw [K.b]; exact Z.br
  ·show d'.lb.length <= _; rw [K.lb]; exact Z.lb
  ·show d'.tx.length <= _; rw [K.tx]; exact Z.tx
  ·have e0 : c.fl.length = 0 := by rw [hB.fl]; rfl
   show d'.fl.length <= 5000
   have : d'.fl.length <= max c.fl.length l.length := S;omega
  ·show d'.re.length <= _; rw [X.re]; exact Nat.le_trans hre (by omega)
  ·show d'.fr.length <= _; rw [K.fr]; exact Z.fr
  ·show d'.to.length <= _; rw [K.to]; exact Z.to
  ·show bulkP d'.ps <= _; rw [X.ps]; exact Nat.le_trans (parse_wt _) (by decide)
 split at h
 ·split at h
  ·cases h
  ·rename_i c' k' ht;unfold endC at h;split at h
   ·cases h
   ·cases h;unfold tabR at ht;split at ht
    ·cases ht
    rename_i hd;split at ht
    ·cases ht
    rename_i h1;split at ht
    ·cases ht
    rename_i h2;split at ht
    ·cases ht
    rename_i hn;cases ht;have e1 := sid_sz h1 (xb4 hd).2.1;have e2 : ∀ {f t : List UInt8}, ¬ (f.length ≠ t.length \/ twB f = true) -> f.length <= l.length -> t.length <= l.length := fun hn h => by
     have : _ = _ := Decidable.not_not.1 fun e => hn (.inl e);omega
    exact { Z with fr := Nat.le_trans e1 (by omega), to := Nat.le_trans (e2 hn e1) (by omega) }
 split at h
 ·unfold endC at h;split at h
  ·cases h
  ·cases h; exact Z
 ·cases h
theorem cmd_sz (hl : l.length <= 4096) (h : cmdR G l i = .ok (c, k)) : SzC c := by
 unfold cmdR at h;split at h
 ·cases h
 rename_i ht;split at h
 ·cases h
 obtain ⟨s1, s2⟩ := two_sz2 ht;obtain ⟨w1, w2⟩ := two_wf ht;have aln : ∀ {a : Adr}, WfA G a -> a.ln <= 1000000000 := fun {a} w => by
  have := w.le;rcases Nat.lt_or_ge a.k 1 with h | h
  ·rw [w.z (by omega)]; decide
  ·rcases Nat.lt_or_ge a.k 2 with h2 | h2
   ·have := (w.l (by omega)).2.1; omega
   ·rcases Nat.lt_or_ge a.k 3 with h3 | h3
    ·rw [(w.d (by omega)).1]; decide
    ·rw [(w.m (by omega)).1]; decide
 exact rst_sz ⟨rfl, rfl, rfl, rfl, rfl, rfl, rfl, rfl, rfl, rfl, two_ad ht⟩ hl ⟨w1.le, w2.le, aln w1, aln w2, Nat.le_trans s1 (by omega), Nat.le_trans s2 (by omega)⟩ h
theorem all_sz (hl : l.length <= 4096) : ∀ (n i : Nat) (acc cs : List Co), (∀ c ∈ acc, SzC c) -> allR G l n i acc = .ok cs -> ∀ c ∈ cs, SzC c
 | 0, i, acc, cs, ha, h => by cases h; exact ha
 | n + 1, i, acc, cs, ha, h => by
  unfold allR at h;split at h
  ·cases h; exact ha
  ·split at h
   ·cases h
   ·rename_i hc;refine all_sz hl n _ _ cs (fun c hm => ?_) h;rw [List.mem_append, List.mem_singleton] at hm;rcases hm with hm | rfl
    ·exact ha c hm
    ·exact cmd_sz hl hc
theorem all_num : ∀ (n i : Nat) (acc cs : List Co), allR G l n i acc = .ok cs -> cs.length <= acc.length + n
 | 0, i, acc, cs, h => by cases h; omega
 | n + 1, i, acc, cs, h => by
  unfold allR at h;split at h
  ·cases h; omega
  ·split at h
   ·cases h
   ·have := all_num n _ _ cs h;rw [List.length_append, List.length_singleton] at this;omega
theorem scr_sz (h : (scrR G l).2.2.1 = 0) : (∀ c ∈ (scrR G l).1, SzC c) /\ (scrR G l).1.length <= 4097 := by
 obtain ⟨hl, cs, h1, h2⟩ := xhc h;rw [h2];exact ⟨all_sz hl _ _ _ _ (fun c hc => by simp at hc) h1, by have := all_num _ _ _ _ h1; simp only [List.length_nil] at this; show cs.length <= 4097; omega⟩
end sho
end Go.Proofs.YtidgnebbibkmhaaGreatDoor
