/- show, pure: how a command is written. -/
import Derived.Test.YtidgnebbibkmhaaGreatDoorKXw1
import Derived.Lib.ItoaNum
set_option maxRecDepth 100000
set_option maxHeartbeats 4000000
namespace Go.Proofs.YtidgnebbibkmhaaGreatDoor
open Go.RowKit
open scanP scrP tpl ytb
namespace sho

def frB (d : UInt8) (ts : List (List UInt8)) : Bool := ts.all fun t => !t.contains d
def dlF (ts : List (List UInt8)) : Nat → Nat → Option UInt8
  | 0, _ => none
  | n + 1, b => if b ≠ 92 ∧ frB (UInt8.ofNat b) ts = true then some (UInt8.ofNat b) else dlF ts n (b + 1)
def dlm (ts : List (List UInt8)) : Option UInt8 := if frB 47 ts = true then some 47 else dlF ts 94 33
def bws (d : UInt8) : List (List UInt8) → List UInt8
  | [] => []
  | t :: r => t ++ d :: bws d r
def btw (ts : List (List UInt8)) : Option (List UInt8) := match dlm ts with
  | none => none
  | some d => some (d :: bws d ts)
def adW (a : Adr) : Option (List UInt8) :=
  if a.k = 1 then some (Lib.decDigits a.ln)
  else if a.k = 2 then some [36]
  else if a.k = 3 then (match btw [a.re] with
    | none => none
    | some t => some ((if frB 47 [a.re] = true then [] else [92]) ++ t))
  else some []
def eN (nl : List UInt8) : List UInt8 → List UInt8
  | [] => []
  | b :: r => (if b = 92 then [92, 92] else if b = 10 then nl else [b]) ++ eN nl r
def trN (t : List UInt8) : List UInt8 := if t.getLast? = some 10 then t.dropLast else t
def woW (t : List UInt8) : List UInt8 := if t = [] then [] else 32 :: t
def flW (c : Co) : List UInt8 := (if c.nh = 1 then [] else Lib.decDigits c.nh) ++ ((if c.an = true then [103] else []) ++ ((if c.pr = true then [112] else []) ++ (if c.fl = [] then [] else 119 :: woW c.fl)))
def psW (ps : List Pt) : List UInt8 := (tpl.textR ps []).getD []
def rsW (c : Co) : Option (List UInt8) :=
  if c.nm = 97 ∨ c.nm = 105 ∨ c.nm = 99 then some (92 :: 10 :: eN [92, 10] (trN c.tx))
  else if c.nm = 58 ∨ c.nm = 98 ∨ c.nm = 116 then some (woW c.lb)
  else if c.nm = 114 ∨ c.nm = 119 then some (woW c.fl)
  else if c.nm = 115 then (btw [c.re, psW c.ps]).map (· ++ flW c)
  else if c.nm = 121 then btw [eN [92, 110] c.fr, eN [92, 110] c.to]
  else some []
def abW (c : Co) : Option (List UInt8) := if c.b.k = 0 then some [] else (adW c.b).map (44 :: ·)
def ntW (c : Co) : List UInt8 := if c.nt = true then [33] else []
def cmW (c : Co) : Option (List UInt8) := match adW c.a, abW c, rsW c with
  | some x, some y, some z => some (x ++ (y ++ (ntW c ++ c.nm :: (z ++ [10]))))
  | _, _, _ => none
def alW : List Co → List UInt8 → Except Nat (List UInt8)
  | [], l => .ok l
  | c :: r, l => match cmW c with
    | none => .error c.pl
    | some t => alW r (l ++ t)
def shR (G : Gr) (l : List UInt8) : List UInt8 × Nat × Nat :=
  if (scrR G l).2.2.1 ≠ 0 then ([], (scrR G l).2.2.1, (scrR G l).2.2.2)
  else match alW (scrR G l).1 (if (scrR G l).2.1 = true then [35, 110, 10] else []) with
    | .error p => ([], 5, p)
    | .ok t => (t, 0, 0)

/-- A piece between delimiters: a backslash opens a pair. -/
def pcB (ln : Bool) : List UInt8 → Bool
  | [] => true
  | [b] => decide (b ≠ 10) && decide (b ≠ 92)
  | b :: c :: r => if b = 92 then (decide (c ≠ 10) || ln) && pcB ln r else decide (b ≠ 10) && pcB ln (c :: r)
theorem pc_one (ln : Bool) {b : UInt8} (h1 : b ≠ 10) (h2 : b ≠ 92) (t : List UInt8) : pcB ln (b :: t) = pcB ln t := by
  cases t <;> simp [pcB, h1, h2]
theorem pc_two (ln : Bool) {c : UInt8} (h : c ≠ 10 ∨ ln = true) (t : List UInt8) : pcB ln (92 :: c :: t) = pcB ln t := by
  rcases h with h | h <;> simp [pcB, h]
theorem un_pc (d : UInt8) (hd : d ≠ 10 ∧ d ≠ 92) (ln : Bool) : ∀ (l : List UInt8) (p : Nat) (t : List UInt8), (unR d ln l p t).2.2 = 0 → ∃ x, (unR d ln l p t).1 = t ++ x ∧ pcB ln x = true
  | [], p, t, h => by simp [unR] at h
  | [b], p, t, h => by
    unfold unR at h ⊢
    split at h
    · rename_i hb; rw [if_pos hb]; exact ⟨[], by simp, rfl⟩
    · simp at h
  | b :: c :: r, p, t, h => by
    unfold unR at h ⊢
    by_cases h1 : b = d
    · rw [if_pos h1]; exact ⟨[], by simp, rfl⟩
    rw [if_neg h1] at h ⊢
    by_cases h2 : b = 10
    · rw [if_pos h2] at h; simp at h
    rw [if_neg h2] at h ⊢
    by_cases h3 : b ≠ 92
    · rw [if_pos h3] at h ⊢
      obtain ⟨x, e, hx⟩ := un_pc d hd ln (c :: r) _ _ h
      exact ⟨b :: x, by rw [e]; simp, by rw [pc_one ln h2 h3]; exact hx⟩
    rw [if_neg h3] at h ⊢
    by_cases h4 : c = 10 ∧ ln = false
    · rw [if_pos h4] at h; simp at h
    rw [if_neg h4] at h ⊢
    have h5 : c ≠ 10 ∨ ln = true := by
      cases ln
      · exact .inl fun e => h4 ⟨e, rfl⟩
      · exact .inr rfl
    obtain ⟨x, e, hx⟩ := un_pc d hd ln r _ _ h
    cases hk : xgp d c
    · have hc : c = d := by
        unfold xgp at hk
        simp only [Bool.or_eq_false_iff, decide_eq_false_iff_not, Decidable.not_not] at hk
        exact hk.1.1.1.1.1.1
      rw [hk] at e
      refine ⟨c :: x, by rw [e]; simp, ?_⟩
      rw [pc_one ln (by rw [hc]; exact hd.1) (by rw [hc]; exact hd.2)]
      exact hx
    · rw [hk] at e
      exact ⟨92 :: c :: x, by rw [e]; simp, by rw [pc_two ln h5]; exact hx⟩
theorem un_back (d : UInt8) (hd : d ≠ 10 ∧ d ≠ 92) (ln : Bool) (r : List UInt8) : ∀ (x : List UInt8) (p : Nat) (t : List UInt8), pcB ln x = true → x.contains d = false → unR d ln (x ++ d :: r) p t = (t ++ x, p + x.length + 1, 0)
  | [], p, t, _, _ => by cases r <;> simp [unR]
  | [b], p, t, h, hn => by
    simp only [pcB, Bool.and_eq_true, decide_eq_true_eq] at h
    have hb : b ≠ d := by simp at hn; exact fun e => hn e.symm
    show unR d ln (b :: d :: r) p t = _
    rw [unR, if_neg hb, if_neg h.1, if_pos h.2]
    have := un_back d hd ln r [] (p + 1) (t ++ [b]) rfl rfl
    rw [List.nil_append] at this
    rw [this]; simp
  | b :: c :: q, p, t, h, hn => by
    have hn' : b ≠ d ∧ c ≠ d ∧ q.contains d = false := by
      simp at hn ⊢
      exact ⟨fun e => hn.1 e.symm, fun e => hn.2.1 e.symm, hn.2.2⟩
    show unR d ln (b :: c :: (q ++ d :: r)) p t = _
    by_cases h3 : b = 92
    · subst h3
      simp only [pcB, if_true, Bool.and_eq_true, Bool.or_eq_true, decide_eq_true_eq] at h
      rw [unR, if_neg hn'.1, if_neg (by decide), if_neg (by simp), if_neg (by intro e; rcases h.1 with h1 | h1; exact h1 e.1; rw [h1] at e; cases e.2)]
      have hk : xgp d c = true := by unfold xgp; simp [hn'.2.1]
      rw [hk, un_back d hd ln r q _ _ h.2 hn'.2.2]
      simp; omega
    · rw [pcB, if_neg h3, Bool.and_eq_true, decide_eq_true_eq] at h
      rw [unR, if_neg hn'.1, if_neg h.1, if_pos h3]
      have := un_back d hd ln r (c :: q) (p + 1) (t ++ [b]) h.2 (by simp; exact ⟨fun e => hn'.2.1 e.symm, by simpa using hn'.2.2⟩)
      rw [List.cons_append] at this
      rw [this]; simp; omega
/-- A reading by what stands there. -/
theorem get_of {l : List UInt8} {i : Nat} {b : UInt8} {r : List UInt8} (h : l.drop i = b :: r) : l[i]? = some b := by
  have := congrArg (·[0]?) h
  simpa using this
theorem drop_of {l : List UInt8} {i : Nat} {x r : List UInt8} (h : l.drop i = x ++ r) : l.drop (i + x.length) = r := by
  rw [← List.drop_drop, h, List.drop_left]
theorem le_of {l : List UInt8} {i : Nat} {b : UInt8} {r : List UInt8} (h : l.drop i = b :: r) : i < l.length := (List.getElem?_eq_some_iff.1 (get_of h)).1
theorem drop_one {l : List UInt8} {i : Nat} {b : UInt8} {r : List UInt8} (h : l.drop i = b :: r) : l.drop (i + 1) = r := drop_of (x := [b]) h
theorem mt_of {l : List UInt8} {i : Nat} {b : UInt8} {r S : List UInt8} (h : l.drop i = b :: r) : mtB l i S = S.contains b := by unfold mtB; rw [get_of h]
theorem bl_of {l : List UInt8} {i : Nat} {b : UInt8} {r : List UInt8} (h : l.drop i = b :: r) (hb : b ≠ 32 ∧ b ≠ 9) : xab l i = i := by
  unfold xab; rw [h]; simp [blkN, hb.1, hb.2]
theorem pie_of {l : List UInt8} {i p : Nat} {d : UInt8} {x r : List UInt8} {ln : Bool} (h : l.drop i = x ++ d :: r) (hd : d ≠ 10 ∧ d ≠ 92) (hx : pcB ln x = true) (hn : x.contains d = false) : pieR l i d ln p = .ok (x, i + x.length + 1) := by
  have hi : i ≤ l.length := by
    rcases Nat.lt_or_ge l.length i with h1 | h1
    · rw [List.drop_of_length_le (Nat.le_of_lt h1)] at h; simp at h
    · exact h1
  have e : xau l i d ln = (x, i + x.length + 1, 0) := by
    unfold xau
    rw [if_neg (by simp only [hd.1, hd.2, or_false]; omega), Int.toNat_natCast, h, un_back d hd ln r x i [] hx hn, List.nil_append]
  unfold pieR
  rw [e]; rfl
theorem pie_pc {l : List UInt8} {i p k : Nat} {d : UInt8} {x : List UInt8} {ln : Bool} (h : pieR l i d ln p = .ok (x, k)) : pcB ln x = true := by
  unfold pieR at h
  split at h
  · rename_i h0
    cases h
    unfold xau at h0 ⊢
    by_cases hc : (i : Int) < 0 ∨ (l.length : Int) < i ∨ d = 10 ∨ d = 92
    · rw [if_pos hc] at h0; simp at h0
    · rw [if_neg hc] at h0 ⊢
      obtain ⟨y, e, hy⟩ := un_pc d ⟨fun e => hc (.inr (.inr (.inl e))), fun e => hc (.inr (.inr (.inr e)))⟩ ln _ _ _ h0
      rw [e, List.nil_append]; exact hy
  · cases h
theorem del_of {l : List UInt8} {i e p : Nat} {d : UInt8} {r : List UInt8} (h : l.drop i = d :: r) (hd : d ≠ 10 ∧ d ≠ 92) : delR l i e p = .ok (d, i + 1) := by
  unfold delR; rw [get_of h]; simp [hd.1, hd.2]
theorem dlF_ok (ts : List (List UInt8)) : ∀ (n b : Nat) (d : UInt8), 33 ≤ b → b + n ≤ 256 → dlF ts n b = some d → (d ≠ 10 ∧ d ≠ 92) ∧ frB d ts = true
  | 0, b, d, _, _, h => by cases h
  | n + 1, b, d, h1, h2, h => by
    unfold dlF at h
    split at h
    · rename_i hc
      cases h
      have e : (UInt8.ofNat b).toNat = b := Nat.mod_eq_of_lt (by omega)
      refine ⟨⟨fun e' => ?_, fun e' => ?_⟩, hc.2⟩
      · rw [e'] at e; have : b = 10 := e.symm; omega
      · rw [e'] at e; have : b = 92 := e.symm; exact hc.1 this
    · exact dlF_ok ts n (b + 1) d (by omega) (by omega) h
theorem dlm_ok {ts : List (List UInt8)} {d : UInt8} (h : dlm ts = some d) : (d ≠ 10 ∧ d ≠ 92) ∧ ∀ t ∈ ts, t.contains d = false := by
  have h2 : (d ≠ 10 ∧ d ≠ 92) ∧ frB d ts = true := by
    unfold dlm at h
    split at h
    · rename_i hf; cases h; exact ⟨by decide, hf⟩
    · exact dlF_ok ts 94 33 d (by omega) (by omega) h
  refine ⟨h2.1, fun t ht => ?_⟩
  have := List.all_eq_true.1 h2.2 t ht
  simpa using this
/-- Digits. -/
theorem dec_dg : ∀ n : Nat, ∀ b ∈ Lib.decDigits n, isDg b = true := by
  intro n
  have key : ∀ m : Nat, m < 10 → isDg (UInt8.ofNat (48 + m)) = true := fun m hm => by
    have e : (UInt8.ofNat (48 + m)).toNat = 48 + m := Nat.mod_eq_of_lt (by omega)
    unfold isDg; rw [e]; simp; omega
  induction n using Nat.strongRecOn with
  | _ n ih =>
    intro b hb
    rw [Lib.decDigits] at hb
    split at hb
    · rw [List.mem_singleton] at hb; rw [hb]; exact key _ ‹_›
    · rw [List.mem_append, List.mem_singleton] at hb
      rcases hb with hb | hb
      · exact ih (n / 10) (by omega) b hb
      · rw [hb]; exact key _ (by omega)
theorem dec_val : ∀ n : Nat, dgV (Lib.decDigits n) = n := by
  intro n
  induction n using Nat.strongRecOn with
  | _ n ih =>
    rw [Lib.decDigits]
    split
    · have e : (UInt8.ofNat (48 + n)).toNat = 48 + n := Nat.mod_eq_of_lt (by omega)
      simp only [dgV, List.foldl_cons, List.foldl_nil, e]; omega
    · have e : (UInt8.ofNat (48 + n % 10)).toNat = 48 + n % 10 := Nat.mod_eq_of_lt (by omega)
      have h1 := ih (n / 10) (by omega)
      unfold dgV at h1 ⊢
      rw [List.foldl_append, h1]
      simp only [List.foldl_cons, List.foldl_nil, e]; omega
theorem dec_len : ∀ (k n : Nat), n < 10 ^ (k + 1) → (Lib.decDigits n).length ≤ k + 1
  | 0, n, h => by rw [Lib.decDigits, dif_pos (by simpa using h)]; simp
  | k + 1, n, h => by
    rw [Lib.decDigits]
    split
    · simp
    · have := dec_len k (n / 10) (by rw [Nat.pow_succ] at h; omega)
      rw [List.length_append, List.length_singleton]; omega
theorem dec_ne (n : Nat) : ∃ b t, Lib.decDigits n = b :: t := by
  rw [Lib.decDigits]
  split
  · exact ⟨_, _, rfl⟩
  · cases Lib.decDigits (n / 10) <;> exact ⟨_, _, rfl⟩
theorem dgN_of {r : List UInt8} (hr : dgN r = 0) : ∀ x : List UInt8, (∀ b ∈ x, isDg b = true) → dgN (x ++ r) = x.length
  | [], _ => hr
  | b :: x, h => by
    rw [List.cons_append, dgN, if_pos (h b List.mem_cons_self), dgN_of hr x (fun c hc => h c (List.mem_cons_of_mem _ hc))]; rfl
theorem num_of {l : List UInt8} {i n : Nat} {r : List UInt8} (h : l.drop i = Lib.decDigits n ++ r) (hr : dgN r = 0) (hn : n < 1000000000) : numR l i = (n, i + (Lib.decDigits n).length, 0) := by
  unfold numR
  rw [h, dgN_of hr _ (dec_dg n)]
  have h1 := dec_len 8 n (by omega)
  have h2 : 0 < (Lib.decDigits n).length := by obtain ⟨b, t, e⟩ := dec_ne n; rw [e]; simp
  simp only
  rw [if_neg (by omega), if_neg (by omega), List.take_left, dec_val]
theorem num_lt (l : List UInt8) (i : Nat) : (numR l i).1 < 1000000000 := by
  have key : ∀ (x : List UInt8) (n : Nat), (∀ b ∈ x, isDg b = true) → x.foldl (fun n b => 10 * n + (b.toNat - 48)) n < (n + 1) * 10 ^ x.length := by
    intro x
    induction x with
    | nil => intro n _; simp
    | cons b x ih =>
      intro n hx
      have h1 := ih (10 * n + (b.toNat - 48)) fun c hc => hx c (List.mem_cons_of_mem _ hc)
      have h2 := hx b List.mem_cons_self
      unfold isDg at h2
      simp only [Bool.and_eq_true, decide_eq_true_eq] at h2
      rw [List.foldl_cons, List.length_cons, Nat.pow_succ, Nat.mul_comm (10 ^ _) 10, ← Nat.mul_assoc]
      exact Nat.lt_of_lt_of_le h1 (Nat.mul_le_mul_right _ (by omega))
  have dgs : ∀ x : List UInt8, ∀ b ∈ x.take (dgN x), isDg b = true := by
    intro x
    induction x with
    | nil => intro b hb; simp at hb
    | cons c x ih =>
      intro b hb
      unfold dgN at hb
      split at hb
      · rename_i hc
        rw [List.take_succ_cons, List.mem_cons] at hb
        rcases hb with rfl | hb
        · exact hc
        · exact ih b hb
      · simp at hb
  unfold numR
  simp only
  split
  · decide
  · split
    · decide
    · rename_i h1 h2
      have h3 := key _ 0 (dgs (l.drop i))
      rw [Nat.zero_add, Nat.one_mul] at h3
      have h4 : ((l.drop i).take (dgN (l.drop i))).length ≤ 9 := by rw [List.length_take]; omega
      exact Nat.lt_of_lt_of_le h3 (Nat.le_trans (Nat.pow_le_pow_right (by decide) h4) (by decide))

end sho
end Go.Proofs.YtidgnebbibkmhaaGreatDoor
