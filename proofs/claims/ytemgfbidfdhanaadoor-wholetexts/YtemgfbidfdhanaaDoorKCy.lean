/- canon: writeKids. -/
import Derived.Test.YtemgfbidfdhanaaDoorKCv
import Derived.Test.YtemgfbidfdhanaaDoorKPv
import Derived.Test.YtemgfbidfdhanaaDoorKQf
import Derived.Test.YtemgfbidfdhanaaDoorKWx
import Derived.Test.YtemgfbidfdhanaaDoorKDc
import Derived.Test.YtemgfbidfdhanaaDoorKQt
namespace Go.Proofs.YtemgfbidfdhanaaDoor
open Go.RowKit Go.Shelf

theorem flat_take {α : Type} (f : α → List UInt8) (ks : List α) (k : Nat) (h : k < ks.length) : ((ks.take (k + 1)).map f).flatten = ((ks.take k).map f).flatten ++ f ks[k] := by
  rw [List.take_succ_eq_append_getElem h, List.map_append, List.flatten_append]
  simp

theorem flat_take_le {α : Type} (f : α → List UInt8) (ks : List α) (k : Nat) : ((ks.take k).map f).flatten.length ≤ (ks.map f).flatten.length := by
  conv => rhs; rw [← List.take_append_drop k ks, List.map_append, List.flatten_append, List.length_append]
  omega

/-- What a tree's writing asks of a world: the rows below base lie as they lay. -/
def WrIH (base : Nat) (W0 : World) (x : Tr) (s : List UInt8) : Prop := ∀ (W : World) (v : Value) (l : List UInt8) (a : Option Addr) (n c : Nat), Below base W0 W → base ≤ W.heap.size → Kids W (· < base) (.slice a n c) x.kids → W.ownsRow base 5 1 v l.length (strVals l) → l.length + s.length ≤ 1000000 → Calls Tryd.prog 12 #[v, nodeA x (.slice a n c)] W (WP base W v (l ++ s))

theorem kids_keepB {base : Nat} {W W' : World} {v : Value} {ts : List Tr} (h : Kids W (· < base) v ts) (hb : Below base W W') : Kids W' (· < base) v ts := h.keep (fun g hg => hb.block g hg) (fun _ h => h)

set_option maxRecDepth 100000 in
set_option maxHeartbeats 2000000 in
theorem kids_walk (tx : Tr → List UInt8) (base : Nat) (ks : List Tr) (hkl : ks.length ≤ 1000000) (W : World) (ih : ∀ x ∈ ks, WrIH base W x (tx x)) (v : Value) (l : List UInt8) (a : Option Addr) (c : Nat) (hb : base ≤ W.heap.size) (hk : Kids W (· < base) (.slice a ks.length c) ks) (hown : W.ownsRow base 5 1 v l.length (strVals l)) (hlen : l.length + (ks.map tx).flatten.length ≤ 1000000) :
    Calls Tryd.prog 23 #[v, .slice a ks.length c] W (WP base W v (l ++ (ks.map tx).flatten)) := by
  have HA := hideT (And.intro hb (And.intro hk (And.intro hown (And.intro hlen ih))))
  clear hb hk hown hlen ih
  go_enter Tryd.func23, Tryd.ntmps23
  go_wp2_with fail
  go_loopw [0, 9] (fun vv iv wq => ∃ k : Nat, k ≤ ks.length ∧ iv = .int .i64 k ∧ WP base W v (l ++ ((ks.take k).map tx).flatten) (.returned vv) wq) (fun _ iv _ => (ks.length - intOf iv).toNat)
  case atStart => exact ⟨0, by omega, rfl, v, rfl, by simpa using HA.out.2.2.1, ⟨rfl, rfl, rfl, Nat.le_refl _, fun _ _ _ => rfl⟩, .inl rfl⟩
  case round =>
    obtain ⟨k, hk1, rfl, v1, hv1, hr, hg, hm⟩ := hrel
    cases hv1
    have hbw : Below base W wr := (Below.refl base W).grown hg HA.out.1 (fun j e => (HA.out.2.2.1.lt j e).1)
    by_cases hlt : k < ks.length
    · have hkr := kids_keepB HA.out.2.1 hbw
      obtain ⟨g, c', u, he, hgb, _, hcell, hku⟩ := kids_at hkr (i := k) (List.getElem?_eq_getElem hlt)
      obtain rfl : a = some ⟨g, 0, none⟩ := by injection he
      obtain ⟨ua, uc, rfl⟩ := kids_shape hku
      have y0 := (hcell 0 _ rfl).1
      have y1 := (hcell 1 _ rfl).1
      have y2 := (hcell 2 _ rfl).1
      have y3 := (hcell 3 _ rfl).1
      have y4 := (hcell 4 _ rfl).1
      have y5 := (hcell 5 _ rfl).1
      have y6 := (hcell 6 _ rfl).1
      have y7 := (hcell 7 _ rfl).1
      have y8 := (hcell 8 _ rfl).1
      rw [Nat.add_zero] at y0
      have k3 : (k : Int) < (ks.length : Int) := by omega
      have k4 : (0 : Int) ≤ (k : Int) := by omega
      have k5 : IntKind.i64.wrap ((k : Int) + 1) = (k : Int) + 1 := by rw [IntKind.wrap_i64]; omega
      have hft := flat_take tx ks k hlt
      have hle := flat_take_le tx ks (k + 1)
      rw [hft] at hle
      have hBa := fun (o : Obj) => (Below.refl wr.heap.size wr).alloc (Nat.le_refl _) o
      have hsz : base ≤ wr.heap.size := Nat.le_trans HA.out.1 hg.size
      have HC := hideT (fun (o : Obj) => (HA.out.2.2.2.2 ks[k] (List.getElem_mem hlt) (wr.alloc o) u0 (l ++ ((ks.take k).map tx).flatten) ua _ uc (hbw.trans ((hBa o).mono hsz)) (Nat.le_trans hsz (hBa o).size) (kids_keepB hku ((hBa o).mono hsz)) (hr.alloc o) (by have := HA.out.2.2.2.1; simp only [List.length_append] at hle ⊢; omega)))
      have HN := hideT (fun (o : Obj) e w2 (h : WP base (wr.alloc o) u0 (l ++ ((ks.take k).map tx).flatten ++ tx ks[k]) e w2) => WP.next hg hm (WP.from (grown_of (hBa o)) h))
      have HT := hideT hft
      clear hcell hku he hkr hbw hgb hr hg hm hft hle hBa hsz
      go_wp2_with fail
      refine (HC.out _).mono ?_
      intro e w2 hw
      have hF := HN.out _ e w2 hw
      rw [List.append_assoc, ← HT.out] at hF
      have HF := hideT hF
      obtain ⟨v2, rfl, -, -⟩ := hw
      clear hF y0 y1 y2 y3 y4 y5 y6 y7 y8
      go_wp2
      exact ⟨⟨k + 1, by omega, by go_num, HF.out⟩, by simp [intOf]; omega⟩
    · obtain rfl : k = ks.length := by omega
      have k3 : ¬ (ks.length : Int) < (ks.length : Int) := by omega
      rw [List.take_length] at hr
      have HF := hideT (show WP base W v (l ++ (ks.map tx).flatten) (.returned u0) wr from ⟨u0, rfl, hr, hg, hm⟩)
      clear hr hg hm hbw
      go_wp2
      go_ret
      exact HF.out
end Go.Proofs.YtemgfbidfdhanaaDoor

/- canon: write, of any tree that is read. -/
namespace Go.Proofs.YtemgfbidfdhanaaDoor
open Go.RowKit Go.Shelf

theorem stS_eq (q : Nat → Bool) : stS q = stC q := rfl
theorem repS_eq (lo hi : Int) : repS lo hi = repX lo hi := rfl

theorem wrL_flat (st : (Nat → Bool) → List UInt8) : ∀ ts : List Tr, wrL st ts = (ts.map (wrT st)).flatten
  | [] => by simp [wrL]
  | t :: ts => by simp [wrL, wrL_flat st ts]

theorem shL_mem : ∀ (ts : List Tr) (s s' : Sh), ShL ts s s' → ∀ x ∈ ts, ∃ u u', ShT x u u'
  | [], _, _, _, x, hx => by cases hx
  | t :: ts, s, s', h, x, hx => by
    obtain ⟨s1, h1, h2⟩ := h
    rcases List.mem_cons.1 hx with rfl | hx
    · exact ⟨s, s1, h1⟩
    · exact shL_mem ts s1 s' h2 x hx

theorem stC_len (q : Nat → Bool) : (stC q).length ≤ 1300 := by
  unfold stC
  split
  · simp
  split
  · unfold byteX
    split
    · simp
    split
    · simp
    · simp
  · rw [List.length_map]
    exact (textL_len q).2

theorem digL_len (n : Nat) : (digL n).length ≤ 3 := digX_len n

theorem repX_len (lo hi : Int) : (repX lo hi).length ≤ 1300 := by
  have h1 := digL_len lo.toNat
  have h2 := digL_len hi.toNat
  unfold repX
  split
  · simp
  split
  · simp only [List.length_cons, List.length_append, List.length_nil]; omega
  split
  · simp only [List.length_cons, List.length_append, List.length_nil]; omega
  · simp only [List.length_cons, List.length_append, List.length_nil]; omega

theorem tkX_len (t : Tk) : (tkX stC t).length ≤ 1300 := by
  unfold tkX
  split
  · exact stC_len _
  split
  · simp
  split
  · simp
  split
  · simp
  split
  · simp
  split
  · simp
  · exact repX_len _ _

theorem run_len {s : ByteArray} (hs : s.size ≤ 512) : ∀ (f i k : Nat) (P Q : Ps), s.size - i ≤ f → i ≤ s.size → Well P k i → runA s i k P = .ok Q → (txP stC Q).length ≤ (txP stC P).length + 1300 * (s.size - i)
  | 0, i, k, P, Q, hf, hle, hw, hr => by
    rw [runA_end s i k P (by omega)] at hr
    injection hr with hr
    rw [hr]
    omega
  | f + 1, i, k, P, Q, hf, hle, hw, hr => by
    by_cases hi : i < s.size
    · by_cases h0 : (P.take (tokenT s i k)).1 = 0
      · have h1 := take_kind hi h0
        obtain ⟨w1, w2, w3⟩ := well_take hi hs hw h0
        rw [runA_step hi h0] at hr
        have h2 := run_len hs f _ _ _ Q (by omega) h1.2.2 w1 hr
        rw [tx_take stC P _ h1.1 (tokAt_token s i k hi).ok.kind h0 (well_rep hi hw), List.length_append] at h2
        have h3 := tkX_len (tokenT s i k)
        have h4 := h1.2.1
        generalize (tokenT s i k).to = j at *
        omega
      · rw [runA_err hi h0] at hr
        cases hr
    · rw [runA_end s i k P (by omega)] at hr
      injection hr with hr
      rw [hr]
      omega

/-- The one text of a BRE is not so long that no row could hold it. -/
theorem text_len {s : ByteArray} {ts : List Tr} (hp : parseT s = .ok ts) : (wrL stC ts).length ≤ 700000 := by
  obtain ⟨hs, Q, hr, ho, hts, _, _⟩ := parse_run hp
  have hx : txP stC Q = wrL stC ts := by unfold txP; rw [ho, hts]; rfl
  have h := run_len hs _ 0 4 Ps.start Q (Nat.le_refl _) (Nat.zero_le _) well_start hr
  rw [hx, show (txP stC Ps.start).length = 0 by simp [txP, Ps.start, wrL]] at h
  omega

theorem write_any : ∀ (m : Nat) (t : Tr), SizeOf.sizeOf t < m → smallT t → (∃ u u', ShT t u u') → ∀ (base : Nat) (W0 : World), (∀ W', Below base W0 W' → Tab W') → WrIH base W0 t (wrT stC t)
  | 0, t, h, _, _, _, _, _ => absurd h (Nat.not_lt_zero _)
  | m + 1, t, h, hsm, hsh, base, W0, ht => by
    intro W v l a n c hbw hb hk hown hlen
    have hn : n = t.kids.length := by
      obtain ⟨a', c', he⟩ := kids_shape hk
      injection he
    subst hn
    have ht' : ∀ W', Below base W W' → Tab W' := fun W' h' => ht W' (hbw.trans h')
    have hl := (smallT_pos t hsm).2.2.1.2
    have hkid : ∀ x ∈ t.kids, ∃ u u', ShT x u u' := by
      obtain ⟨u, u', hs⟩ := hsh
      obtain ⟨kd, q, lo, hi, gp, ks⟩ := t
      rcases hs with ⟨_, _, _, _, _, h1⟩ | ⟨_, _, _, _, rfl, _⟩ | ⟨_, _, _, _, rfl, _⟩ | ⟨_, _, _, _, _, _, _, s1, h1, _⟩ | ⟨_, _, _, _, _, _, h1⟩
      · exact shL_mem _ _ _ h1
      · intro x hx; cases hx
      · intro x hx; cases hx
      · exact shL_mem _ _ _ h1
      · exact shL_mem _ _ _ h1
    have ih := fun x hx (W' : World) (hW : Below base W W') => write_any m x (by have := kids_size (t := t) hx; omega) (small_mem _ (smallT_pos t hsm).2.2.2 x hx) (hkid x hx) base W' (fun W'' h' => ht' W'' (hW.trans h'))
    have HK : ∀ (W' : World) (v : Value) (l : List UInt8), Below base W W' → base ≤ W'.heap.size → W'.ownsRow base 5 1 v l.length (strVals l) → l.length + (wrL stC t.kids).length ≤ 1000000 → Calls Tryd.prog 23 #[v, .slice a t.kids.length c] W' (WP base W' v (l ++ wrL stC t.kids)) := fun W' v l h1 h2 h3 h4 => by
      rw [wrL_flat] at h4 ⊢
      exact kids_walk (wrT stC) base t.kids hl W' (fun x hx => ih x hx W' h1) v l a c h2 (kids_keepB hk h1) h3 h4
    clear ih hkid
    obtain ⟨u, u', hs⟩ := hsh
    obtain ⟨kd, q, lo, hi, gp, ks⟩ := t
    simp only [Tr.kids] at hk HK hl ⊢
    rcases hs with ⟨rfl, _, _, _, _, h1⟩ | ⟨hkd, _, _, _, rfl, _⟩ | ⟨rfl, _, _, _, rfl, g1, g9, _⟩ | ⟨rfl, _, _, _, _, g9, _⟩ | ⟨rfl, _, _, ⟨b0, b1⟩, b2, _⟩
    · have e : wrT stC (.mk 0 q lo hi gp ks) = wrL stC ks := by simp [wrT]
      rw [e] at hlen ⊢
      exact write_cat q lo hi gp _ base W v l _ hb hown hlen HK
    · rcases hkd with rfl | ⟨rfl | rfl, _⟩
      · have e : wrT stC (.mk 1 q lo hi gp []) = stS q := by simp [wrT, stS_eq]
        rw [e] at hlen ⊢
        exact write_set q lo hi gp _ base W v l hb hown hlen
      · have e : wrT stC (.mk 2 q lo hi gp []) = [94] := by simp [wrT]
        rw [e] at hlen ⊢
        exact write_bol q lo hi gp _ base W v l hb hown (by omega)
      · have e : wrT stC (.mk 3 q lo hi gp []) = [36] := by simp [wrT]
        rw [e] at hlen ⊢
        exact write_eol q lo hi gp _ base W v l hb hown (by omega)
    · have e : wrT stC (.mk 6 q lo hi gp []) = [92, UInt8.ofNat (48 + gp)] := by simp [wrT]
      rw [e] at hlen ⊢
      exact write_back q lo hi gp g9 _ base W v l hb hown (by omega) (ht' W (Below.refl _ _))
    · have e : wrT stC (.mk 4 q lo hi gp ks) = [92, 40] ++ wrL stC ks ++ [92, 41] := by simp [wrT]
      rw [e] at hlen ⊢
      have h2 := write_group q lo hi gp _ base W v l (wrL stC ks) hb hown (by simp only [List.length_append, List.length_cons, List.length_nil] at hlen; omega) HK
      rw [← List.append_assoc, ← List.append_assoc]
      exact h2
    · have e : wrT stC (.mk 5 q lo hi gp ks) = wrL stC ks ++ repS lo hi := by simp [wrT, repS_eq]
      rw [e] at hlen ⊢
      have h2 := write_rep q lo hi b0 b1 b2 gp _ base W v l (wrL stC ks) hb hown (by simp only [List.length_append] at hlen; omega) ht' HK
      rw [← List.append_assoc]
      exact h2
end Go.Proofs.YtemgfbidfdhanaaDoor

/- canon: Text. -/
namespace Go.Proofs.YtemgfbidfdhanaaDoor
open Go.RowKit Go.Shelf

theorem conv_str {W : World} {base : Nat} {v : Value} {l : List UInt8} (h : W.ownsRow base 5 1 v l.length (strVals l)) : (convert 57 9 v).run Tryd.prog W = .ok (.string ⟨l.toArray⟩) W := by
  have e : strVals l = byteVals (l.map UInt8.toNat) := by simp [strVals, byteVals]
  have e2 : l.length = (l.map UInt8.toNat).length := by simp
  rw [e, e2] at h
  rw [conv_owned h]
  have : bstr (l.map UInt8.toNat) = ⟨l.toArray⟩ := by simp [bstr, Function.comp_def]
  rw [this]

theorem set_blk {W : World} {b k : Nat} {cs : Array Value} {t : TypeId} (h : W.heap[b]? = some (.cells cs t (0, 0))) (u : Value) : (W.setCell ⟨b, k, none⟩ u).heap[b]? = some (.cells (cs.setIfInBounds k u) t (0, 0)) := by
  obtain ⟨hlt, hk2⟩ := Array.getElem?_eq_some_iff.1 h
  show (W.heap.modify b _)[b]? = _
  rw [Array.getElem?_eq_getElem (by rw [Array.size_modify]; exact hlt), Array.getElem_modify_self, hk2]
  simp only [Option.isSome_none, Bool.false_eq_true, if_false]

/-- A fault is laid into the result's block. -/
theorem put2_all {w V : World} {x y u v : Value} (hv : V.heap[w.heap.size]? = some (.cells #[x, y] 30 (0, 0))) (hB : Below w.heap.size w V) : ((V.setCell ⟨w.heap.size, 0, none⟩ u).setCell ⟨w.heap.size, 1, none⟩ v).heap[w.heap.size]? = some (.cells #[u, v] 30 (0, 0)) ∧ Below w.heap.size w ((V.setCell ⟨w.heap.size, 0, none⟩ u).setCell ⟨w.heap.size, 1, none⟩ v) :=
  ⟨set_blk (set_blk hv u) v, (hB.setCell (Nat.le_refl _) _).setCell (Nat.le_refl _) _⟩

set_option maxRecDepth 100000 in
set_option maxHeartbeats 1000000 in
theorem canon_err (s : ByteArray) (er : Int) (p : Nat) (hp : parseT s = .error (er, p)) (he : er ≠ 0) (w : World) (hg : Glob w) : Calls Tryd.prog 6 #[.string s] w fun e w' => e = .returned (.tuple #[.string ⟨#[]⟩, .agg #[.int .i64 er, .int .i64 (p : Nat)]]) ∧ Below w.heap.size w w' := by
  have hXs : (w.alloc (.cells #[.int .i64 0, .int .i64 0] 30)).heap.size = w.heap.size + 1 := World.size_alloc w _
  have xb1 : (w.alloc (.cells #[.int .i64 0, .int .i64 0] 30)).heap[w.heap.size]? = some (.cells #[.int .i64 0, .int .i64 0] 30 (0, 0)) := heap_alloc_new w _
  have hBX : Below w.heap.size w (w.alloc (.cells #[.int .i64 0, .int .i64 0] 30)) := (Below.refl _ _).alloc (Nat.le_refl _) _
  have HP := hideT (parse_fault s er p hp (w.alloc (.cells #[.int .i64 0, .int .i64 0] 30)) (hg.below hBX (Nat.le_refl _)))
  have k1 : (er == 0) = false := by rw [beq_eq_false_iff_ne]; exact he
  have k2 : (er != 0) = true := by rw [bne_iff_ne]; exact he
  clear hp he hg
  have HX := hideT (And.intro hXs (And.intro xb1 hBX))
  clear hXs xb1 hBX
  go_enter Tryd.func6, Tryd.ntmps6
  go_wp2_with fail
  refine HP.out.mono ?_
  rintro e w1 ⟨rfl, hB1⟩
  obtain ⟨hXs, xb1, hBX⟩ := HX.out
  rw [hXs] at hB1
  have hB1 : Below (w.heap.size + 1) (w.alloc (.cells #[.int .i64 0, .int .i64 0] 30)) w1 := hB1

  have hsz := hB1.size
  obtain ⟨V, hV⟩ : ∃ V, V = (w1.alloc (.cells #[.int .i64 0, .int .u64 0, .int .u64 0, .int .u64 0, .int .u64 0, .int .i64 0, .int .i64 0, .int .i64 0, .slice none 0 0] 27)).alloc (.cells #[.int .i64 er, .int .i64 (p : Nat)] 30) := ⟨_, rfl⟩
  have hBV1 : Below w1.heap.size w1 V := by rw [hV]; exact ((Below.refl _ _).alloc (Nat.le_refl _) _).alloc (by rw [World.size_alloc]; omega) _
  have hVs : V.heap.size = w1.heap.size + 1 + 1 := by rw [hV, World.size_alloc, World.size_alloc]
  have v1 : V.heap[w.heap.size]? = some (.cells #[.int .i64 0, .int .i64 0] 30 (0, 0)) := by rw [hBV1.block _ (by omega), hB1.block _ (by omega)]; exact xb1
  have v3 : V.heap[w1.heap.size]? = some (.cells #[.int .i64 0, .int .u64 0, .int .u64 0, .int .u64 0, .int .u64 0, .int .i64 0, .int .i64 0, .int .i64 0, .slice none 0 0] 27 (0, 0)) := by
    rw [hV, Below.heap_alloc _ _ _ (by rw [World.size_alloc]; omega)]
    exact heap_alloc_new w1 _
  have v4 : V.heap[w1.heap.size + 1]? = some (.cells #[.int .i64 er, .int .i64 (p : Nat)] 30 (0, 0)) := by
    rw [hV, ← World.size_alloc w1 (.cells #[.int .i64 0, .int .u64 0, .int .u64 0, .int .u64 0, .int .u64 0, .int .i64 0, .int .i64 0, .int .i64 0, .slice none 0 0] 27)]
    exact heap_alloc_new _ _
  have hBV : Below w.heap.size w V := (hBX.trans (hB1.mono (by omega))).trans (hBV1.mono (by omega))

  have y0 : V.cell? ⟨w1.heap.size + 1, 0, none⟩ = some (.int .i64 er) := by simp [World.cell?, v4]
  have y1 : V.cell? ⟨w1.heap.size + 1, 1, none⟩ = some (.int .i64 (p : Nat)) := by simp [World.cell?, v4]
  have q0 : V.cell? ⟨w.heap.size, 0, none⟩ = some (.int .i64 0) := by simp [World.cell?, v1]
  have q1 : V.cell? ⟨w.heap.size, 1, none⟩ = some (.int .i64 0) := by simp [World.cell?, v1]
  have f0 : V.frozen? ⟨w.heap.size, 0, none⟩ = false := by simp [World.frozen?, v1]
  have f1 : V.frozen? ⟨w.heap.size, 1, none⟩ = false := by simp [World.frozen?, v1]
  have n1 : (w.heap.size = w1.heap.size + 1) = False := eq_false (by omega)
  have n3 : (w1.heap.size + 1 = w.heap.size) = False := eq_false (by omega)
  have HD := hideT (And.intro v1 hBV)
  clear v1 v3 v4 hBV hBV1 hB1 xb1 hBX hXs hsz hVs
  go_upto_region 2 with fail
  rw [← hV]
  clear hV
  go_wp2_with fail
  go_region
  obtain ⟨Y, hY⟩ : ∃ Y, Y = (V.setCell ⟨w.heap.size, 0, none⟩ (.int .i64 er)).setCell ⟨w.heap.size, 1, none⟩ (.int .i64 (p : Nat)) := ⟨_, rfl⟩
  have hY2 : Y.heap[w.heap.size]? = some (.cells #[.int .i64 er, .int .i64 (p : Nat)] 30 (0, 0)) ∧ Below w.heap.size w Y := by rw [hY]; exact put2_all HD.out.1 HD.out.2
  obtain ⟨yb, yB⟩ := hY2
  rw [← hY]
  clear hY
  go_wp2
  have o0 : Y.cell? ⟨w.heap.size, 0, none⟩ = some (.int .i64 er) := by simp [World.cell?, yb]
  have o1 : Y.cell? ⟨w.heap.size, 1, none⟩ = some (.int .i64 (p : Nat)) := by simp [World.cell?, yb]
  refine bodyPost_ret (v := .tuple #[.string ⟨#[]⟩, .agg #[.int .i64 er, .int .i64 (p : Nat)]]) (by simp [results, Tryd.results6, go_sem, o0, o1]; try rfl) rfl ?_
  exact ⟨rfl, yB.drew⟩

set_option maxRecDepth 100000 in
set_option maxHeartbeats 1000000 in
theorem canon_ok (s : ByteArray) (ts : List Tr) (hp : parseT s = .ok ts) (w : World) (hg : Glob w) (ht : Tab w) : Calls Tryd.prog 6 #[.string s] w fun e w' => e = .returned (.tuple #[.string ⟨(wrL stC ts).toArray⟩, .agg #[.int .i64 0, .int .i64 0]]) ∧ Below w.heap.size w w' := by
  have hXs : (w.alloc (.cells #[.int .i64 0, .int .i64 0] 30)).heap.size = w.heap.size + 1 := World.size_alloc w _
  have xb1 : (w.alloc (.cells #[.int .i64 0, .int .i64 0] 30)).heap[w.heap.size]? = some (.cells #[.int .i64 0, .int .i64 0] 30 (0, 0)) := heap_alloc_new w _
  have hBX : Below w.heap.size w (w.alloc (.cells #[.int .i64 0, .int .i64 0] 30)) := (Below.refl _ _).alloc (Nat.le_refl _) _
  have hs : s.size ≤ 1073741824 := by have := (parse_run hp).1; omega
  have HP := hideT (parse_ok s hs ts hp (w.alloc (.cells #[.int .i64 0, .int .i64 0] 30)) (hg.below hBX (Nat.le_refl _)))
  have HA := hideT (And.intro hp ht)
  clear hp hg ht hs
  have HX := hideT (And.intro hXs (And.intro xb1 hBX))
  clear hXs xb1 hBX
  go_enter Tryd.func6, Tryd.ntmps6
  go_wp2_with fail
  refine HP.out.mono ?_
  rintro e w1 ⟨hB1, a, n, c, rfl, hk⟩
  obtain ⟨hXs, xb1, hBX⟩ := HX.out
  rw [hXs] at hB1
  have hB1 : Below (w.heap.size + 1) (w.alloc (.cells #[.int .i64 0, .int .i64 0] 30)) w1 := hB1

  have hsz := hB1.size
  obtain ⟨V, hV⟩ : ∃ V, V = (w1.alloc (.cells #[.int .i64 0, .int .u64 0, .int .u64 0, .int .u64 0, .int .u64 0, .int .i64 0, .int .i64 0, .int .i64 0, .slice a n c] 27)).alloc (.cells #[.int .i64 0, .int .i64 0] 30) := ⟨_, rfl⟩
  have hBV1 : Below w1.heap.size w1 V := by rw [hV]; exact ((Below.refl _ _).alloc (Nat.le_refl _) _).alloc (by rw [World.size_alloc]; omega) _
  have hVs : V.heap.size = w1.heap.size + 1 + 1 := by rw [hV, World.size_alloc, World.size_alloc]
  have v1 : V.heap[w.heap.size]? = some (.cells #[.int .i64 0, .int .i64 0] 30 (0, 0)) := by rw [hBV1.block _ (by omega), hB1.block _ (by omega)]; exact xb1
  have v3 : V.heap[w1.heap.size]? = some (.cells #[.int .i64 0, .int .u64 0, .int .u64 0, .int .u64 0, .int .u64 0, .int .i64 0, .int .i64 0, .int .i64 0, .slice a n c] 27 (0, 0)) := by
    rw [hV, Below.heap_alloc _ _ _ (by rw [World.size_alloc]; omega)]
    exact heap_alloc_new w1 _
  have v4 : V.heap[w1.heap.size + 1]? = some (.cells #[.int .i64 0, .int .i64 0] 30 (0, 0)) := by
    rw [hV, ← World.size_alloc w1 (.cells #[.int .i64 0, .int .u64 0, .int .u64 0, .int .u64 0, .int .u64 0, .int .i64 0, .int .i64 0, .int .i64 0, .slice a n c] 27)]
    exact heap_alloc_new _ _
  have hBV : Below w.heap.size w V := (hBX.trans (hB1.mono (by omega))).trans (hBV1.mono (by omega))

  have hW := write_any _ (catT ts) (Nat.lt_succ_self _) (parse_small s ts HA.out.1) ⟨_, _, (parse_shapes s ts HA.out.1).choose_spec⟩ V.heap.size V (fun W' h' => HA.out.2.below (hBV.trans (h'.mono hBV.size)) (Nat.le_refl _)) V (.slice none 0 0) [] a n c (Below.refl _ _) (Nat.le_refl _) ((kids_blk (kids_below (show Kids w1 _ (.slice a n c) (catT ts).kids from hk) hBV1)).keep (fun _ _ => rfl) (fun _ h => h.2)) (World.ownsRow_nil _ _ _ _) (by have := text_len HA.out.1; rw [wr_cat]; simp only [List.length_nil]; omega)
  rw [wr_cat, List.nil_append] at hW
  have y0 : V.cell? ⟨w1.heap.size + 1, 0, none⟩ = some (.int .i64 0) := by simp [World.cell?, v4]
  have t0 : V.cell? ⟨w1.heap.size, 0, none⟩ = some (.int .i64 0) := by simp [World.cell?, v3]
  have t1 : V.cell? ⟨w1.heap.size, 1, none⟩ = some (.int .u64 0) := by simp [World.cell?, v3]
  have t2 : V.cell? ⟨w1.heap.size, 2, none⟩ = some (.int .u64 0) := by simp [World.cell?, v3]
  have t3 : V.cell? ⟨w1.heap.size, 3, none⟩ = some (.int .u64 0) := by simp [World.cell?, v3]
  have t4 : V.cell? ⟨w1.heap.size, 4, none⟩ = some (.int .u64 0) := by simp [World.cell?, v3]
  have t5 : V.cell? ⟨w1.heap.size, 5, none⟩ = some (.int .i64 0) := by simp [World.cell?, v3]
  have t6 : V.cell? ⟨w1.heap.size, 6, none⟩ = some (.int .i64 0) := by simp [World.cell?, v3]
  have t7 : V.cell? ⟨w1.heap.size, 7, none⟩ = some (.int .i64 0) := by simp [World.cell?, v3]
  have t8 : V.cell? ⟨w1.heap.size, 8, none⟩ = some (.slice a n c) := by simp [World.cell?, v3]
  have HD := hideT (And.intro v1 (And.intro hBV hW))
  clear v1 v3 v4 hBV hBV1 hB1 xb1 hBX hXs hVs hk hW
  go_upto_region 2 with fail
  rw [← hV]
  clear hV
  go_wp2_with fail
  refine HD.out.2.2.mono ?_
  rintro e w3 ⟨v2, rfl, hr, hg3, -⟩
  have hcv := conv_str hr
  have hb3 : Below w.heap.size w w3 := HD.out.2.1.trans ((Below.refl w.heap.size V).grown hg3 HD.out.2.1.size (fun k e => by cases e))
  have hw3 : w3.heap[w.heap.size]? = some (.cells #[.int .i64 0, .int .i64 0] 30 (0, 0)) := by rw [hg3.block _ (Array.getElem?_eq_some_iff.1 HD.out.1).1 (fun e => by cases e)]; exact HD.out.1
  have q0 : w3.cell? ⟨w.heap.size, 0, none⟩ = some (.int .i64 0) := by simp [World.cell?, hw3]
  have q1 : w3.cell? ⟨w.heap.size, 1, none⟩ = some (.int .i64 0) := by simp [World.cell?, hw3]
  have f0 : w3.frozen? ⟨w.heap.size, 0, none⟩ = false := by simp [World.frozen?, hw3]
  have f1 : w3.frozen? ⟨w.heap.size, 1, none⟩ = false := by simp [World.frozen?, hw3]
  have HE := hideT (put2_all (u := .int .i64 0) (v := .int .i64 0) hw3 hb3)
  clear hr hg3 hb3 hw3 y0 t0 t1 t2 t3 t4 t5 t6 t7 t8
  go_wp2
  obtain ⟨Y, hY⟩ : ∃ Y, Y = (w3.setCell ⟨w.heap.size, 0, none⟩ (.int .i64 0)).setCell ⟨w.heap.size, 1, none⟩ (.int .i64 0) := ⟨_, rfl⟩
  obtain ⟨yb, yB⟩ := HE.out
  rw [← hY] at yb yB ⊢
  clear hY
  have o0 : Y.cell? ⟨w.heap.size, 0, none⟩ = some (.int .i64 0) := by simp [World.cell?, yb]
  have o1 : Y.cell? ⟨w.heap.size, 1, none⟩ = some (.int .i64 0) := by simp [World.cell?, yb]
  refine bodyPost_ret (v := .tuple #[.string ⟨(wrL stC ts).toArray⟩, .agg #[.int .i64 0, .int .i64 0]]) (by simp [results, Tryd.results6, go_sem, o0, o1]; try rfl) rfl ?_
  exact ⟨rfl, yB⟩
end Go.Proofs.YtemgfbidfdhanaaDoor
