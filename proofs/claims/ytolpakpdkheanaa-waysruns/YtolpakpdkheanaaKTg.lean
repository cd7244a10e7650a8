/- tally: the kind of a place; what leads on by steps. tally: parts that take a byte have a position (pure). tally: Has; tools for what is not wanted. -/
import Derived.Test.YtolpakpdkheanaaKLu
set_option maxRecDepth 100000
set_option maxHeartbeats 4000000
namespace Go.Proofs.Ytolpakpdkheanaa.tly
open Go.RowKit Go.Proofs.Ytolpakpdkheanaa.br
theorem kind_any {W : World} {T : Nat} {s : ByteArray} (pl : Nat) (c1 : W.cell? ⟨T, 1, none⟩ = some (.string s)) :
 Calls Try.prog 26 #[.pointer (some ⟨T, 0, none⟩), .int .i64 (pl : Nat)] W fun e W' => e = .returned (.int .i64 (kindAt s.size pl : Nat)) ∧ W' = W := by
 have HK := hideT (show kindAt s.size pl = (bif Nat.beq pl 0 then 1 else 0) + (bif Nat.beq pl s.size then 2 else 0) from rfl)
 generalize kindAt s.size pl = kk at *
 go_enter Try.func26, Try.ntmps26
 by_cases h0 : pl = 0
 · by_cases h1 : pl = s.size
   · have i0 : ((pl : Int) == 0) = true := by rw [h0]; rfl
     have i1 : ((pl : Int) == (s.size : Int)) = true := by rw [h1]; simp
     have HE := hideT (show kk = 3 by rw [HK.out, ← h1, h0]; rfl)
     clear h0 h1
     go_wp2
     go_ret
     exact ⟨by rw [HE.out]; rfl, rfl⟩
   · have i0 : ((pl : Int) == 0) = true := by rw [h0]; rfl
     have i1 : ((pl : Int) == (s.size : Int)) = false := by rw [beq_eq_false_iff_ne]; omega
     have hb : Nat.beq pl s.size = false := by cases e : Nat.beq pl s.size with | false => rfl | true => exact absurd (Nat.eq_of_beq_eq_true e) h1
     have HE := hideT (show kk = 1 by rw [HK.out, hb, h0]; rfl)
     clear h0 h1 hb
     go_wp2
     go_ret
     exact ⟨by rw [HE.out]; rfl, rfl⟩
 · have hb0 : Nat.beq pl 0 = false := by cases e : Nat.beq pl 0 with | false => rfl | true => exact absurd (Nat.eq_of_beq_eq_true e) h0
   have i0 : ((pl : Int) == 0) = false := by rw [beq_eq_false_iff_ne]; omega
   by_cases h1 : pl = s.size
   · have i1 : ((pl : Int) == (s.size : Int)) = true := by rw [h1]; simp
     have HE := hideT (show kk = 2 by rw [HK.out, hb0, h1, Nat.beq_refl]; rfl)
     clear h0 h1 hb0
     go_wp2
     go_ret
     exact ⟨by rw [HE.out]; rfl, rfl⟩
   · have i1 : ((pl : Int) == (s.size : Int)) = false := by rw [beq_eq_false_iff_ne]; omega
     have hb : Nat.beq pl s.size = false := by cases e : Nat.beq pl s.size with | false => rfl | true => exact absurd (Nat.eq_of_beq_eq_true e) h1
     have HE := hideT (show kk = 0 by rw [HK.out, hb, hb0]; rfl)
     clear h0 h1 hb hb0
     go_wp2
     go_ret
     exact ⟨by rw [HE.out]; rfl, rfl⟩
def boV (l : List Bool) : List Value := l.map fun b => .bool b
theorem leads_any {W : World} {S : Nat → Prop} {T : Nat} {s : ByteArray} {v : Value} {l : Stp} {n base pl : Nat} {gl gr lc rc : Nat} {row : List Bool} (h : StR W S v l) (hS : ∀ g, S g → g < W.heap.size) (ho : StOk n l) (hn : base + n ≤ row.length) (hrl : row.length ≤ 100000) (hp : pl < s.size) (hs : s.size ≤ 1073741824) (c1 : W.cell? ⟨T, 1, none⟩ = some (.string s)) (c5 : W.cell? ⟨T, 8, none⟩ = some (.slice (some ⟨gl, 0, none⟩) (s.size + 1) lc)) (hr : W.cell? ⟨gl, pl + 1, none⟩ = some (.slice (some ⟨gr, 0, none⟩) row.length rc)) (hrow : ∀ (i : Nat) (b : Bool), row[i]? = some b → W.cell? ⟨gr, i, none⟩ = some (.bool b)) :
 Calls Try.prog 50 #[.pointer (some ⟨T, 0, none⟩), v, .int .i64 (base : Nat), .int .i64 (pl : Nat)] W fun e W' => e = .returned (.bool (leadsF row l base)) ∧ Below W.heap.size W W' := by
 obtain ⟨a, c, rfl⟩ := h.shape
 have hlen := ho.length
 have i0 : ((pl : Int) == (s.size : Int)) = false := by rw [beq_eq_false_iff_ne]; omega
 have i1 : (pl : Int) + 1 < (s.size : Int) + 1 := by omega
 have i2 : (0 : Int) ≤ (pl : Int) + 1 := by omega
 have i3 : (pl : Int) ≤ 1073741824 := by omega
 have i4 : (l.length : Int) ≤ 100000 := by omega
 have HH := hideT (And.intro h (And.intro hS (And.intro ho (And.intro hn (And.intro hrl hrow)))))
 clear h hS ho hn hrl hrow hlen hp hs
 go_enter Try.func50, Try.ntmps50
 go_wp2_with fail
 go_loopw [11, 29] (fun s11 s29 wr => ∃ k : Nat, k ≤ l.length ∧ s29 = .int .i64 (k : Nat) ∧ Hid (Below W.heap.size W wr ∧ leadsF row l base = leadsF row (l.drop k) base)) (fun _ s29 _ => ((l.length : Int) - intOf s29).toNat)
 case atStart => exact ⟨0, by omega, rfl, hideT ⟨Below.refl _ _, rfl⟩⟩
 case round =>
  obtain ⟨k, hk, rfl, HR⟩ := hrel
  by_cases hlt : k < l.length
  · obtain ⟨x, hx⟩ : ∃ x, l[k]? = some x := ⟨_, List.getElem?_eq_getElem hlt⟩
    obtain ⟨g, o, rfl, hg, q0, q1⟩ := HH.out.1.at hx
    have hxo := HH.out.2.2.1.lt x (List.mem_of_getElem? hx)
    have hblk := HR.out.1.block g (HH.out.2.1 g hg)
    replace q0 := (World.cell?_of_block (a := ⟨g, _, none⟩) hblk).trans q0
    replace q1 := (World.cell?_of_block (a := ⟨g, _, none⟩) hblk).trans q1
    have hpl : base + x.1 < row.length := by have := HH.out.2.2.2.1; omega
    obtain ⟨bb, hbb⟩ : ∃ bb, row[base + x.1]? = some bb := ⟨_, List.getElem?_eq_getElem hpl⟩
    have hbA := (Below.refl wr.heap.size wr).alloc (Nat.le_refl _) (.cells #[.int .i64 (x.1 : Nat), .int .i64 (x.2 : Nat)] 95)
    obtain ⟨ps, hps⟩ : ∃ ps, ps = base + x.1 := ⟨_, rfl⟩
    have hcell := keep_cell hbA (keep_cell HR.out.1 (HH.out.2.2.2.2.2 _ _ hbb))
    have hstep : leadsF row (l.drop k) base = (bb || leadsF row (l.drop (k + 1)) base) := by
     obtain ⟨h1, h2⟩ := List.getElem?_eq_some_iff.1 hx
     rw [List.drop_eq_getElem_cons h1, h2]
     show (row.getD (base + x.1) false || _) = _
     rw [List.getD_eq_getElem?_getD, hbb]; rfl
    have j1 : (k : Int) < (l.length : Int) := by omega
    have j2 : (0 : Int) ≤ (k : Int) := by omega
    have j3 : (base : Int) ≤ 100000 := by have := HH.out.2.2.2.2.1; omega
    have j4 : (x.1 : Int) ≤ 100000 := by have := HH.out.2.2.2.2.1; omega
    have j5 : (base : Int) + (x.1 : Int) < (row.length : Int) := by omega
    have HB := hideT (And.intro (HR.out.1.trans (hbA.mono HR.out.1.size)) (And.intro (HR.out.2.trans hstep) hlt))
    clear hbA hxo hblk hpl hbb hstep hlt hk hx hg HR
    cases bb
    · go_wp2_with fail
      exact ⟨⟨k + 1, HB.out.2.2, by go_num, hideT ⟨HB.out.1, by have := HB.out.2.1; rw [Bool.false_or] at this; exact this⟩⟩, by have := HB.out.2.2; simp [intOf]; omega⟩
    · go_wp2_with fail
      go_ret
      exact ⟨by rw [HB.out.2.1]; rfl, HB.out.1⟩
  · obtain rfl : k = l.length := by omega
    have HE := hideT (show leadsF row l base = false by rw [HR.out.2, List.drop_length]; rfl)
    go_wp2_with fail
    go_ret
    exact ⟨by rw [HE.out]; rfl, HR.out.1⟩
end Go.Proofs.Ytolpakpdkheanaa.tly
namespace Go.Proofs.Ytolpakpdkheanaa.tly
open Go.RowKit Go.Proofs.Ytolpakpdkheanaa.br
def KiG (a : Ga) : Prop := ∀ l ∈ a.links, KiP l.1
theorem KiG.zero : KiG ga0 := fun _ h => nomatch h
theorem KiG.add {a : Ga} (h : KiG a) {kid : Tp} (hk : KiP kid) (free : Bool) : KiG (a.add kid free) := fun l hl =>
 (List.mem_append.1 (show l ∈ a.links ++ [(kid, a.size, free, [])] from hl)).elim (h l) (fun h1 => by rw [List.mem_singleton.1 h1]; exact hk)
theorem KiG.join {a : Ga} (h : KiG a) {k : Nat} (h1 : k ≠ 1) (h6 : k ≠ 6) (g : Nat) (ag : Bool) : KiP (joinT k g ag a) := by
 refine .mk _ (fun e => (e.elim (fun e => absurd e h1) (fun e => absurd e h6))) (fun l hl => ?_)
 obtain ⟨i, hi, e⟩ := List.mem_iff_getElem.1 (show l ∈ (joinF (endE ag a.links) a.links).1 from hl)
 obtain ⟨l0, h0, e1, _⟩ := join_at _ _ i l (by rw [← e]; exact List.getElem?_eq_getElem hi)
 rw [e1]
 exact h l0 (List.mem_of_getElem? h0)
theorem KiG.addN {kid : Tp} (hk : KiP kid) (lo : Int) : ∀ (n c : Nat) (a : Ga), KiG a → KiG (addN kid lo n c a)
 | 0, _, _, h => h
 | n + 1, c, _, h => KiG.addN hk lo n (c + 1) _ (h.add hk _)
theorem KiG.addL : ∀ (ps : List Tp) (a : Ga), (∀ p ∈ ps, KiP p) → KiG a → KiG (ps.foldl (fun a kid => a.add kid false) a)
 | [], _, _, h => h
 | p :: ps, _, hp, h => KiG.addL ps _ (fun q hq => hp q (List.mem_cons_of_mem _ hq)) (h.add (hp p List.mem_cons_self) false)
theorem KiG.rep {x : Tr} (hx : KiP (layT x)) (lo hi : Int) : KiG (repG x lo hi) := by
 unfold repG
 cases decide (hi = 0)
 · cases Nat.beq (layT x).size 0
   · exact KiG.addN hx lo _ 0 _ KiG.zero
   · cases decide (lo > 0)
     · exact KiG.zero
     · exact KiG.zero.add hx false
 · exact KiG.zero
mutual
theorem lay_ki : ∀ t : Tr, LyT t → KiP (layT t)
 | .mk k q lo hi g kids, h => by
  obtain ⟨hk6, h23, h5, hl, hp, hks⟩ := h
  have i1 := layL_ki kids hks
  match k, hk6 with
  | 0, _ => exact (KiG.addL _ _ i1 KiG.zero).join (by decide) (by decide) _ _
  | 1, _ => exact .mk _ (fun _ => Nat.one_pos) (fun _ h => nomatch h)
  | 2, _ => exact .mk _ (fun e => nomatch e) (fun _ h => nomatch h)
  | 3, _ => exact .mk _ (fun e => nomatch e) (fun _ h => nomatch h)
  | 4, _ => exact (KiG.addL _ _ i1 KiG.zero).join (by decide) (by decide) _ _
  | 5, _ =>
   obtain ⟨⟨c, rfl⟩, _⟩ := h5 rfl
   rw [lay_rep_eq]
   exact (KiG.rep (i1 _ List.mem_cons_self) lo hi).join (by decide) (by decide) _ _
  | 6, _ => exact .mk _ (fun _ => Nat.one_pos) (fun _ h => nomatch h)
theorem layL_ki : ∀ ts : List Tr, LyL ts → ∀ p ∈ layL ts, KiP p
 | [], _, _, h => nomatch h
 | t :: ts, h, p, hp => by
  obtain ⟨h1, h2⟩ : LyT t ∧ LyL ts := h
  rcases List.mem_cons.1 (show p ∈ layT t :: layL ts from hp) with rfl | hp
  · exact lay_ki t h1
  · exact layL_ki ts h2 p hp
end
end Go.Proofs.Ytolpakpdkheanaa.tly
namespace Go.Proofs.Ytolpakpdkheanaa.tly
open Go.RowKit Go.Shelf Go.Proofs.Ytolpakpdkheanaa.br
theorem and_bit (X : Nat) (hX : X < 18446744073709551616) (x : Int) (h0 : 0 ≤ x) :
    (bits .and .u64 ((X : Int) / 2 ^ (x % 64).toNat) 1 == 1) = X.testBit (x.toNat % 64) := by
  obtain ⟨n, rfl⟩ := Int.eq_ofNat_of_zero_le h0
  have e : ((n : Int) % 64).toNat = n % 64 := by omega
  have e1 : ((X : Int) / 2 ^ (n % 64)) = ((X / 2 ^ (n % 64) : Nat) : Int) := by simp
  have hle : X / 2 ^ (n % 64) ≤ X := Nat.div_le_self _ _
  have e2 := u64_and_nat (X / 2 ^ (n % 64)) 1 (by omega) (by omega)
  rw [e, e1, Int.toNat_natCast]
  rw [show ((1 : Int)) = ((1 : Nat) : Int) from rfl, e2, Nat.and_one_is_mod, Nat.testBit_eq_decide_div_mod_eq]
  rw [Bool.eq_iff_iff]
  simp only [beq_iff_eq, decide_eq_true_eq, Int.ofNat_inj]
theorem has0 (a b c d x : Int) (h0 : 0 ≤ x) (h1 : x < 256) (hq : x / 64 = 0) (w : World) :
    Calls Try.prog 49 #[.agg #[.int .u64 a, .int .u64 b, .int .u64 c, .int .u64 d], .int .u8 x] w fun e w' => e = .returned (.bool (bits .and .u64 (a / 2 ^ (x % 64).toNat) 1 == 1)) ∧ Below w.heap.size w w' := by
  go_enter Try.func49, Try.ntmps49
  go_wp2
  go_ret
  exact ⟨rfl, (Below.refl _ _).alloc (Nat.le_refl _) _⟩
theorem has1 (a b c d x : Int) (h0 : 0 ≤ x) (h1 : x < 256) (hq : x / 64 = 1) (w : World) :
    Calls Try.prog 49 #[.agg #[.int .u64 a, .int .u64 b, .int .u64 c, .int .u64 d], .int .u8 x] w fun e w' => e = .returned (.bool (bits .and .u64 (b / 2 ^ (x % 64).toNat) 1 == 1)) ∧ Below w.heap.size w w' := by
  go_enter Try.func49, Try.ntmps49
  go_wp2
  go_ret
  exact ⟨rfl, (Below.refl _ _).alloc (Nat.le_refl _) _⟩
theorem has2 (a b c d x : Int) (h0 : 0 ≤ x) (h1 : x < 256) (hq : x / 64 = 2) (w : World) :
    Calls Try.prog 49 #[.agg #[.int .u64 a, .int .u64 b, .int .u64 c, .int .u64 d], .int .u8 x] w fun e w' => e = .returned (.bool (bits .and .u64 (c / 2 ^ (x % 64).toNat) 1 == 1)) ∧ Below w.heap.size w w' := by
  go_enter Try.func49, Try.ntmps49
  go_wp2
  go_ret
  exact ⟨rfl, (Below.refl _ _).alloc (Nat.le_refl _) _⟩
theorem has3 (a b c d x : Int) (h0 : 0 ≤ x) (h1 : x < 256) (hq : x / 64 = 3) (w : World) :
    Calls Try.prog 49 #[.agg #[.int .u64 a, .int .u64 b, .int .u64 c, .int .u64 d], .int .u8 x] w fun e w' => e = .returned (.bool (bits .and .u64 (d / 2 ^ (x % 64).toNat) 1 == 1)) ∧ Below w.heap.size w w' := by
  go_enter Try.func49, Try.ntmps49
  go_wp2
  go_ret
  exact ⟨rfl, (Below.refl _ _).alloc (Nat.le_refl _) _⟩
theorem has_any (p : Nat → Bool) (x : Int) (h0 : 0 ≤ x) (h1 : x < 256) (w : World) :
    Calls Try.prog 49 #[.agg #[.int .u64 (wd p 0 : Nat), .int .u64 (wd p 1 : Nat), .int .u64 (wd p 2 : Nat), .int .u64 (wd p 3 : Nat)], .int .u8 x] w fun e w' => e = .returned (.bool (p x.toNat)) ∧ Below w.heap.size w w' := by
  have hq : x / 64 = 0 ∨ x / 64 = 1 ∨ x / 64 = 2 ∨ x / 64 = 3 := by omega
  rcases hq with hq | hq | hq | hq
  · have hb : p x.toNat = (wd p 0).testBit (x.toNat % 64) := by rw [xca p 0 _ (by omega), show 64 * 0 + x.toNat % 64 = x.toNat by omega]
    rw [hb, ← and_bit (wd p 0) (xea p 0) x h0]
    exact has0 _ _ _ _ x h0 h1 hq w
  · have hb : p x.toNat = (wd p 1).testBit (x.toNat % 64) := by rw [xca p 1 _ (by omega), show 64 * 1 + x.toNat % 64 = x.toNat by omega]
    rw [hb, ← and_bit (wd p 1) (xea p 1) x h0]
    exact has1 _ _ _ _ x h0 h1 hq w
  · have hb : p x.toNat = (wd p 2).testBit (x.toNat % 64) := by rw [xca p 2 _ (by omega), show 64 * 2 + x.toNat % 64 = x.toNat by omega]
    rw [hb, ← and_bit (wd p 2) (xea p 2) x h0]
    exact has2 _ _ _ _ x h0 h1 hq w
  · have hb : p x.toNat = (wd p 3).testBit (x.toNat % 64) := by rw [xca p 3 _ (by omega), show 64 * 3 + x.toNat % 64 = x.toNat by omega]
    rw [hb, ← and_bit (wd p 3) (xea p 3) x h0]
    exact has3 _ _ _ _ x h0 h1 hq w
theorem tz {P : Program} {ops : Array Oper} {Q : Exit → Act → World → Prop} {S : World → Prop} {md : Region.Mode} (i : Nat) (d : Tmp) {w : World} (hS : S w) {oi : Oper} {fuel : Nat} {listed : Array Bool} {a : Act} (h : wpAnyH P md ops Q S fuel (listed.setIfInBounds i true) (a.put (some d) undef) w) (hi : ops[i]? = some oi := by rfl) (hd : oi.dst = some d := by rfl)
  (hs : Region.noSelect ops = true := by kernel_rfl) (hf : Region.free md ops listed i = true := by kernel_rfl) (hr : (Region.ready md ops listed).contains i = true := by kernel_rfl)
  (hQ : ∀ c a w, Q (.panic c) (a.put (some d) undef) w → Q (.panic c) a w := by exact fun _ _ _ h => h) (hw : Region.wanted oi (yielded ops a.tmps) = false := by rfl) : wpAnyH P md ops Q S (fuel + 1) listed a w := by
 have e : wpAnyH P md ops Q S fuel (listed.setIfInBounds i true) (a.put oi.dst undef) w := by rw [hd]; exact h
 exact wpAnyH_take hi hs hf hr (by rw [hd]; exact hQ) (Or.inr ⟨hw, rfl⟩) hS e
end Go.Proofs.Ytolpakpdkheanaa.tly
