/- check, pure: the statements' own lists of commands. -/
import Derived.Test.YtdlceppiblodmaaCa
namespace Go.Proofs.Ytdlceppiblodmaa
namespace chkP

def blkL (k : Nat) : List Cm := (List.range k).map fun (i : Nat) => cm 123 (10 + (i : Int))
def shutL (k : Nat) : List Cm := (List.range k).map fun (i : Nat) => cm 125 (100 + (i : Int))
def besL (b : Nat) : List Cm := (List.range b).flatMap fun (i : Nat) => [cm 123 (1000 + (i : Int)), cm 125 (2000 + (i : Int))]
set_option maxRecDepth 100000 in
/-- CheckBlocks. -/
theorem blocks_deep : ∀ k, k < 20 → 16 < k → chkR (blkL k ++ shutL k) = (13, 26) := by decide +kernel
set_option maxRecDepth 100000 in
theorem blocks_all : ∀ k, k < 17 → ∀ b, b < 30 → chkR (blkL k ++ shutL k ++ besL b) = (0, 0) ∧ chkR (blkL k ++ shutL k ++ besL b ++ [cm 123 7]) = (23, 7) ∧ chkR (blkL k ++ shutL k ++ besL b ++ [cm 125 8]) = (23, 8) := by decide +kernel

/-- A jump to a label; a label. -/
def IsJ (c : Cm) : Prop := (c.nm = 98 ∨ c.nm = 116) ∧ c.ak = 0 ∧ c.bk = 0 ∧ c.lb ≠ []
def IsL (c : Cm) : Prop := c.nm = 58 ∧ c.ak = 0 ∧ c.bk = 0 ∧ c.nt = false ∧ c.lb ≠ [] ∧ c.lb.length ≤ 32
theorem adr_jump {c : Cm} (h : IsJ c) : adrR c = 0 := by
  obtain ⟨h1, h2, h3, _⟩ := h
  unfold adrR
  rcases h1 with h1 | h1 <;> simp [h1, h2, h3]
theorem adr_label {c : Cm} (h : IsL c) : adrR c = 0 := by
  obtain ⟨h1, h2, h3, h4, _⟩ := h
  unfold adrR
  simp [h1, h2, h3, h4]
theorem one_jump {c : Cm} (h : IsJ c) (pre : List Cm) (d : Nat) : oneR pre d c = (0, d) := by
  unfold oneR
  rw [if_neg (by rw [adr_jump h]; simp)]
  rcases h.1 with h1 | h1 <;> simp [h1]
theorem one_label {c : Cm} (h : IsL c) (pre : List Cm) (d : Nat) : oneR pre d c = if labB pre c.lb then (22, d) else (0, d) := by
  unfold oneR
  rw [if_neg (by rw [adr_label h]; simp)]
  have h5 := h.2.2.2.2.1
  have h6 : ¬ 32 < c.lb.length := by have := h.2.2.2.2.2; omega
  simp [h.1, h5, h6]
theorem go_jumps : ∀ (J : List Cm) (pre r : List Cm) (d : Nat), (∀ c ∈ J, IsJ c) → goR pre d (J ++ r) = goR (pre ++ J) d r
  | [], pre, r, d, _ => by simp
  | c :: J, pre, r, d, h => by
    have h1 := one_jump (h c (by simp)) pre d
    rw [List.cons_append, goR, h1, if_neg (by simp), go_jumps J (pre ++ [c]) r d (fun x hx => h x (by simp [hx]))]
    simp
theorem lab_append (a b : List Cm) (s : List UInt8) : labB (a ++ b) s = (labB a s || labB b s) := by simp [labB]
theorem lab_jumps (J : List Cm) (h : ∀ c ∈ J, IsJ c) (s : List UInt8) : labB J s = false := by
  rw [labB, List.any_eq_false]
  intro c hc
  rcases (h c hc).1 with h1 | h1 <;> simp [h1]
theorem lab_labels (L : List Cm) (h : ∀ c ∈ L, IsL c) (s : List UInt8) : labB L s = (L.map Cm.lb).contains s := by
  induction L with
  | nil => rfl
  | cons c r ih =>
    have h1 := (h c (by simp)).1
    have := ih (fun x hx => h x (by simp [hx]))
    unfold labB at this ⊢
    rw [List.any_cons, this, List.map_cons, List.contains_cons, h1]
    simp [BEq.comm]
/-- Labels that are there once each. -/
theorem go_labels : ∀ (L : List Cm) (pre r : List Cm) (d : Nat), (∀ c ∈ L, IsL c) → (∀ c ∈ L, labB pre c.lb = false) → (L.map Cm.lb).Nodup → goR pre d (L ++ r) = goR (pre ++ L) d r
  | [], pre, r, d, _, _, _ => by simp
  | c :: L, pre, r, d, h, hp, hn => by
    have h1 := one_label (h c (by simp)) pre d
    rw [hp c (by simp)] at h1
    rw [List.map_cons, List.nodup_cons] at hn
    have h2 : ∀ x ∈ L, labB (pre ++ [c]) x.lb = false := fun x hx => by
      rw [lab_append, hp x (by simp [hx]), Bool.false_or]
      unfold labB
      simp only [List.any_cons, List.any_nil, Bool.or_false, Bool.and_eq_false_iff]
      right
      rw [beq_eq_false_iff_ne]
      intro e
      exact hn.1 (by rw [e]; exact List.mem_map.2 ⟨x, hx, rfl⟩)
    rw [List.cons_append, goR, h1, if_neg (by simp), if_neg (by simp), go_labels L (pre ++ [c]) r d (fun x hx => h x (by simp [hx])) h2 hn.2]
    simp
theorem jump_none : ∀ (l all : List Cm), (∀ c ∈ l, (c.nm = 98 ∨ c.nm = 116) → c.lb ≠ [] → labB all c.lb = true) → jumpR all l = none
  | [], _, _ => rfl
  | c :: r, all, h => by
    unfold jumpR
    rw [if_neg (by
      rintro ⟨h1, h2, h3⟩
      rw [h c (by simp) h1 h2] at h3
      cases h3)]
    exact jump_none r all (fun x hx => h x (by simp [hx]))
/-- CheckLabels: jumps alone; with their labels; with one of them twice. -/
theorem labels_alone (J : List Cm) (h : ∀ c ∈ J, IsJ c) (c : Cm) (r : List Cm) (hJ : J = c :: r) : chkR J = (22, c.pl) := by
  have hg := go_jumps J [] [] 0 h
  rw [List.append_nil] at hg
  unfold chkR
  rw [hg]
  simp only [goR]
  rw [if_neg (by simp)]
  have hc := h c (by rw [hJ]; simp)
  have hj : jumpR J J = some c.pl := by
    conv => lhs; arg 2; rw [hJ]
    unfold jumpR
    rw [if_pos ⟨hc.1, hc.2.2.2, lab_jumps J h c.lb⟩]
  rw [hj]
theorem labels_all (J L : List Cm) (h : ∀ c ∈ J, IsJ c) (hL : ∀ c ∈ L, IsL c) (hn : (L.map Cm.lb).Nodup) (hin : ∀ c ∈ J, c.lb ∈ L.map Cm.lb) : chkR (J ++ L) = (0, 0) := by
  have h1 : goR [] 0 (J ++ L) = .inr 0 := by
    have h2 := go_labels L (J) [] 0 hL (fun c _ => lab_jumps J h c.lb) hn
    rw [List.append_nil] at h2
    rw [go_jumps J [] L 0 h, List.nil_append, h2]
    rfl
  unfold chkR
  rw [h1]
  simp only
  rw [if_neg (by simp), jump_none]
  intro c hc h2 h3
  rw [lab_append, lab_jumps J h, Bool.false_or, lab_labels L hL, List.contains_iff_mem]
  rw [List.mem_append] at hc
  rcases hc with hc | hc
  · exact hin c hc
  · have := (hL c hc).1
    rcases h2 with h2 | h2 <;> rw [this] at h2 <;> cases h2
theorem labels_twice (J L : List Cm) (h : ∀ c ∈ J, IsJ c) (hL : ∀ c ∈ L, IsL c) (hn : (L.map Cm.lb).Nodup) (c : Cm) (hc : IsL c) (hin : c.lb ∈ L.map Cm.lb) : chkR (J ++ L ++ [c]) = (22, c.pl) := by
  have h1 : goR [] 0 (J ++ L ++ [c]) = .inl (22, c.pl) := by
    rw [List.append_assoc, go_jumps J [] (L ++ [c]) 0 h, List.nil_append, go_labels L J [c] 0 hL (fun x _ => lab_jumps J h x.lb) hn, goR, one_label hc, lab_append, lab_labels L hL, (List.contains_iff_mem).2 hin, Bool.or_true]
    rfl
  unfold chkR
  rw [h1]
end chkP
end Go.Proofs.Ytdlceppiblodmaa
