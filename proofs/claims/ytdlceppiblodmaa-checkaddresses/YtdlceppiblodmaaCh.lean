/- check: one command. -/
import Derived.Test.YtdlceppiblodmaaCg
namespace Go.Proofs.Ytdlceppiblodmaa
open Go.RowKit
open chkP

/-- The cells of a command that Check doesn't look at. -/
structure Rst where
  al : Int
  ar : ByteArray
  bl : Int
  br : ByteArray
  tx : ByteArray
  fl : ByteArray
  re : ByteArray
  pa : Option Addr
  pn : Nat
  pc : Nat
  nh : Int
  an : Bool
  pr : Bool
  fr : ByteArray
  to : ByteArray
def cmV (c : Cm) (r : Rst) : List Value := [.int .i64 c.pl, .int .i64 c.ak, .int .i64 r.al, .string r.ar, .int .i64 c.bk, .int .i64 r.bl, .string r.br, .bool c.nt, .int .u8 (c.nm.toNat : Nat), .string ⟨c.lb.toArray⟩, .string r.tx, .string r.fl, .string r.re, .slice r.pa r.pn r.pc, .int .i64 r.nh, .bool r.an, .bool r.pr, .string r.fr, .string r.to]
theorem cmV_len (c : Cm) (r : Rst) : (cmV c r).length = 19 := rfl

/-- The cells of a command that Check looks at. -/
structure CAt (W : World) (g o : Nat) (c : Cm) : Prop where
  c0 : W.cell? ⟨g, o, none⟩ = some (.int .i64 c.pl)
  c1 : W.cell? ⟨g, o + 1, none⟩ = some (.int .i64 c.ak)
  c4 : W.cell? ⟨g, o + 4, none⟩ = some (.int .i64 c.bk)
  c7 : W.cell? ⟨g, o + 7, none⟩ = some (.bool c.nt)
  c8 : W.cell? ⟨g, o + 8, none⟩ = some (.int .u8 (c.nm.toNat : Nat))
  c9 : W.cell? ⟨g, o + 9, none⟩ = some (.string ⟨c.lb.toArray⟩)
theorem CAt.lt {W : World} {g o : Nat} {c : Cm} (h : CAt W g o c) : g < W.heap.size := World.block_lt_of_cell? W _ h.c0
theorem CAt.keep {W W' : World} {g o : Nat} {c : Cm} (h : CAt W g o c) (hk : W'.heap[g]? = W.heap[g]?) : CAt W' g o c :=
  ⟨(World.cell?_of_block hk).trans h.c0, (World.cell?_of_block hk).trans h.c1, (World.cell?_of_block hk).trans h.c4, (World.cell?_of_block hk).trans h.c7, (World.cell?_of_block hk).trans h.c8, (World.cell?_of_block hk).trans h.c9⟩

/-- The map has the labels of these commands. -/
def LabsIn (D : DataW Unit) (pre : List Cm) : Prop := ∀ s : List UInt8, Maps.has D (.string s) = labB pre s
theorem labs_none (D : DataW Unit) (pre : List Cm) (c : Cm) (hc : c.nm ≠ 58) (h : LabsIn D pre) : LabsIn D (pre ++ [c]) := fun s => by
  rw [h s]
  have : (c.nm == 58) = false := by rw [beq_eq_false_iff_ne]; exact hc
  simp [labB, this]
theorem labs_put (D : DataW Unit) (pre : List Cm) (c : Cm) (hc : c.nm = 58) (hD : Maps.IsMap D) (h : LabsIn D pre) : LabsIn (D.put (.string c.lb) (.agg [])) (pre ++ [c]) := fun s => by
  have hl : labB (pre ++ [c]) s = (labB pre s || (c.lb == s)) := by simp [labB, hc]
  rw [hl]
  by_cases e : s = c.lb
  · subst e
    rw [Maps.has_put_same hD (by simp [WideAt.IsKeyLit])]
    simp
  · rw [Maps.has_put_other (fun e2 => e (by injection e2)), h s]
    have : (c.lb == s) = false := by rw [beq_eq_false_iff_ne]; exact fun e2 => e e2.symm
    rw [this, Bool.or_false]

/-- What one command leaves. -/
def CmdPost (W : World) (B m mb : Nat) (st : List Int) (n : Nat) (pre : List Cm) (c : Cm) (e : Ending) (w' : World) : Prop :=
  e = .returned (.int .i64 ((oneR pre st.length c).1 : Nat)) ∧ Below B W w' ∧ ((oneR pre st.length c).1 = 0 → ∃ v2 st2 D2, Sof w' B m mb v2 st2 D2 (n + 1) ∧ st2.length = (oneR pre st.length c).2 ∧ st2.reverse = (if c.nm = 123 then c.pl :: st.reverse else if c.nm = 125 then st.reverse.tail else st.reverse) ∧ LabsIn D2 (pre ++ [c]))
theorem Sof.more {W : World} {B m mb : Nat} {v : Value} {st : List Int} {D : DataW Unit} {n : Nat} (h : Sof W B m mb v st D n) : Sof W B m mb v st D (n + 1) := ⟨h.hm, h.hmb, h.blk, h.own, h.map.mono (Nat.le_succ n)⟩
theorem CmdPost.bad {W w' : World} {B m mb : Nat} {st : List Int} {n : Nat} {pre : List Cm} {c : Cm} {k d : Nat} (hk : k ≠ 0) (ho : oneR pre st.length c = (k, d)) (hb : Below B W w') : CmdPost W B m mb st n pre c (.returned (.int .i64 (k : Nat))) w' := by
  refine ⟨by rw [ho], hb, fun h => ?_⟩
  rw [ho] at h
  exact absurd h hk
theorem CmdPost.good {W w' : World} {B m mb : Nat} {st st2 : List Int} {v2 : Value} {D2 : DataW Unit} {n : Nat} {pre : List Cm} {c : Cm} (ho : oneR pre st.length c = (0, st2.length)) (hb : Below B W w') (hs : Sof w' B m mb v2 st2 D2 (n + 1)) (hr : st2.reverse = (if c.nm = 123 then c.pl :: st.reverse else if c.nm = 125 then st.reverse.tail else st.reverse)) (hl : LabsIn D2 (pre ++ [c])) : CmdPost W B m mb st n pre c (.returned (.int .i64 0)) w' := by
  refine ⟨by rw [ho]; rfl, hb, fun _ => ⟨v2, st2, D2, hs, by rw [ho], hr, hl⟩⟩

set_option maxRecDepth 100000 in
set_option maxHeartbeats 4000000 in
theorem command_any {W : World} {B m mb : Nat} {v : Value} {st : List Int} {D : DataW Unit} {n : Nat} (h : Sof W B m mb v st D n) (hB : B ≤ W.heap.size) (hst : st.length ≤ 16) (hn : n < 1000000000000) (pre : List Cm) (hL : LabsIn D pre) (c : Cm) (g o : Nat) (hs : c.lb.length ≤ 1000000000000000) (hgB : g < B) (hc : CAt W g o c) : Calls Try.prog 11 #[.pointer (some ⟨m, 0, none⟩), .pointer (some ⟨g, o, none⟩)] W fun e w' => CmdPost W B m mb st n pre c e w' := by
  have HX := hideT (index_any ⟨#[123, 125, 97, 98, 99, 100, 68, 103, 71, 104, 72, 105, 108, 110, 78, 112, 80, 113, 114, 115, 116, 119, 120, 121, 61, 58]⟩ (c.nm.toNat : Nat) W)
  have HI := hideT (index_name c.nm.toNat c.nm.toNat_lt)
  rw [UInt8.ofNat_toNat] at HI
  have e0 : ((c.nm.toNat : Nat) : Int).toNat.toUInt8 = c.nm := by rw [Int.toNat_natCast]; exact UInt8.ofNat_toNat
  rw [e0] at HX
  obtain ⟨z, hz⟩ : ∃ z, z = Lib.indexByte [123, 125, 97, 98, 99, 100, 68, 103, 71, 104, 72, 105, 108, 110, 78, 112, 80, 113, 114, 115, 116, 119, 120, 121, 61, 58] c.nm := ⟨_, rfl⟩
  have HX2 : Hid (Calls Try.prog 18 #[.string ⟨#[123, 125, 97, 98, 99, 100, 68, 103, 71, 104, 72, 105, 108, 110, 78, 112, 80, 113, 114, 115, 116, 119, 120, 121, 61, 58]⟩, .int .u8 (c.nm.toNat : Nat)] W fun e w' => e = .returned (.int .i64 z) ∧ w' = W) := hideT (by rw [hz]; exact HX.out)
  rw [← hz] at HI
  have HA := hideT (adr_prog c)
  have HH := hideT h
  have HC := hideT hc
  have HLL := hideT hL
  have HM := hideT (mis_any c g o W hc.c1 hc.c4 hc.c7 hc.c8)
  have HST := hideT hst
  have HNN := hideT hn
  have HSS := hideT hs
  have HBB := hideT hB
  have HG := hideT hgB
  have c8 := hc.c8
  have HAO := hideT (show adrR c ≠ 0 → oneR pre st.length c = (adrR c, st.length) from fun h0 => by unfold oneR; rw [if_pos h0])
  have HON := hideT (show adrR c = 0 → oneR pre st.length c = if c.nm = 123 then (if 16 < st.length + 1 then (13, st.length + 1) else (0, st.length + 1)) else if c.nm = 125 then (if st.length = 0 then (23, 0) else (0, st.length - 1)) else if c.nm = 58 ∧ (c.lb = [] ∨ 32 < c.lb.length ∨ labB pre c.lb = true) then (22, st.length) else (0, st.length) from fun h0 => by unfold oneR; rw [if_neg (by rw [h0]; simp)])
  clear h hc hL hst hn hs hB hgB HX e0 hz
  go_enter Try.func11, Try.ntmps11
  go_wp2_with fail
  refine HX2.out.mono ?_
  rintro e w1 ⟨rfl, rfl⟩
  clear HX2
  by_cases hn1 : nameB c.nm = false
  · have z1 : z < 0 := HI.out.mpr hn1
    have HV := hideT (show adrR c = 18 by rw [HA.out, if_pos hn1])
    clear hn1
    go_wp2
    go_ret
    exact CmdPost.bad (k := 18) (by decide) (by rw [HAO.out (by rw [HV.out]; decide), HV.out]) (Below.refl _ _)
  have z1 : (z < 0) = False := by rw [HI.out]; simpa using hn1
  obtain ⟨q, hq⟩ : ∃ q, q = misB (mostN c.nm) (decide (c.ak ≠ 0)) (decide (c.bk ≠ 0)) c.nt := ⟨_, rfl⟩
  rw [← hq] at HM HA
  have HA2 := hideT (show adrR c = if q = true then 17 else 0 by rw [HA.out, if_neg hn1])
  clear hq HA HI hn1
  go_wp2_with fail
  refine HM.out.mono ?_
  rintro e w2 ⟨rfl, hb2⟩
  clear HM
  cases q with
  | true =>
    have HV := hideT (show adrR c = 17 by rw [HA2.out]; rfl)
    have HW := hideT hb2
    clear hb2 HA2
    go_wp2
    go_ret
    exact CmdPost.bad (k := 17) (by decide) (by rw [HAO.out (by rw [HV.out]; decide), HV.out]) (HW.out.mono HBB.out)
  | false =>
    have HO := hideT (HON.out (by rw [HA2.out]; rfl))
    have HW := hideT hb2
    have HS2 := hideT (HH.out.step hb2)
    have HC2 := hideT (HC.out.keep (hb2.block g HC.out.lt))
    have HB2 := hideT (Nat.le_trans HBB.out hb2.size)
    have d0 := HC2.out.c0
    have d8 := HC2.out.c8
    clear hb2 HA2 HON HAO c8 HH HC
    by_cases k1 : c.nm = 123
    · have HK1 := hideT k1
      have m1 : ((c.nm.toNat : Int) == 123) = true := by rw [k1]; rfl
      have HOP := hideT (opens_any HS2.out HB2.out HST.out c.pl)
      clear k1
      go_wp2_with fail
      refine HOP.out.mono ?_
      intro e w3 h3
      clear HOP
      by_cases h16 : st.length = 16
      · rw [if_pos h16] at h3
        obtain ⟨rfl, rfl⟩ := h3
        have HE := hideT (show oneR pre st.length c = (13, st.length + 1) by rw [HO.out, if_pos HK1.out, if_pos (by omega)])
        clear h16
        go_wp2
        go_ret
        exact CmdPost.bad (k := 13) (by decide) HE.out (HW.out.mono HBB.out)
      · rw [if_neg h16] at h3
        obtain ⟨rfl, hb3, v3, hs3⟩ := h3
        have HE := hideT (show oneR pre st.length c = (0, (st ++ [c.pl]).length) by rw [HO.out, if_pos HK1.out, if_neg (by have := HST.out; omega)]; simp)
        have HT := hideT hb3
        have HT2 := hideT hs3
        clear h16 hb3 hs3
        go_wp2
        go_ret
        exact CmdPost.good HE.out ((HW.out.mono HBB.out).trans HT.out) HT2.out.more (by rw [if_pos HK1.out]; simp) (labs_none _ _ _ (by rw [HK1.out]; decide) HLL.out)
    have HK1 := hideT k1
    have m1 : ((c.nm.toNat : Int) == 123) = false := ne_byte c.nm 123 (by decide) k1
    clear k1
    by_cases k2 : c.nm = 125
    · have HK2 := hideT k2
      have m2 : ((c.nm.toNat : Int) == 125) = true := by rw [k2]; rfl
      clear k2
      rcases List.eq_nil_or_concat st with rfl | ⟨st1, p1, rfl⟩
      · have HOP := hideT (shuts_none HS2.out)
        go_wp2_with fail
        refine HOP.out.mono ?_
        rintro e w3 ⟨rfl, rfl⟩
        have HE := hideT (show oneR pre ([] : List Int).length c = (23, 0) by rw [HO.out, if_neg HK1.out, if_pos HK2.out]; rfl)
        clear HOP
        go_wp2
        go_ret
        exact CmdPost.bad (k := 23) (by decide) HE.out (HW.out.mono HBB.out)
      · have HOP := hideT (shuts_some (st := st1) (p := p1) (by have := HS2.out; rw [List.concat_eq_append] at this; exact this) (by have := HST.out; rw [List.length_concat] at this; omega))
        go_wp2_with fail
        refine HOP.out.mono ?_
        rintro e w3 ⟨rfl, hb3, v3, hs3⟩
        have HE := hideT (show oneR pre (st1.concat p1).length c = (0, st1.length) by rw [HO.out, if_neg HK1.out, if_pos HK2.out, if_neg (by rw [List.length_concat]; omega), List.length_concat]; rfl)
        have HT := hideT hb3
        have HT2 := hideT hs3
        clear HOP hb3 hs3
        go_wp2
        go_ret
        exact CmdPost.good HE.out ((HW.out.mono HBB.out).trans HT.out) HT2.out.more (by rw [if_neg HK1.out, if_pos HK2.out]; simp) (labs_none _ _ _ (by rw [HK2.out]; decide) HLL.out)
    have HK2 := hideT k2
    have m2 : ((c.nm.toNat : Int) == 125) = false := ne_byte c.nm 125 (by decide) k2
    clear k2
    by_cases k3 : c.nm = 58
    · have HK3 := hideT k3
      have m3 : ((c.nm.toNat : Int) == 58) = true := by rw [k3]; rfl
      have HOP := hideT (label_any HS2.out HB2.out HNN.out g o c.lb HSS.out HG.out HC2.out.c9)
      clear k3
      go_wp2_with fail
      refine HOP.out.mono ?_
      rintro e w3 ⟨hb3, h3⟩
      clear HOP
      have HLF := hideT (show (labF D c.lb = true) = (c.lb = [] ∨ 32 < c.lb.length ∨ labB pre c.lb = true) by unfold labF; rw [HLL.out c.lb]; simp [or_assoc])
      have HT := hideT hb3
      by_cases hl : labF D c.lb = true
      · rw [if_pos hl] at h3
        obtain ⟨rfl, hs3⟩ := h3
        have HE := hideT (show oneR pre st.length c = (22, st.length) by rw [HO.out, if_neg HK1.out, if_neg HK2.out, if_pos ⟨HK3.out, HLF.out ▸ hl⟩])
        clear hl hs3 hb3
        go_wp2
        go_ret
        exact CmdPost.bad (k := 22) (by decide) HE.out ((HW.out.mono HBB.out).trans HT.out)
      · rw [if_neg hl] at h3
        obtain ⟨rfl, hs3⟩ := h3
        have HE := hideT (show oneR pre st.length c = (0, st.length) by rw [HO.out, if_neg HK1.out, if_neg HK2.out, if_neg (fun h => hl (HLF.out ▸ h.2))])
        have HT2 := hideT hs3
        clear hl hs3 hb3
        go_wp2
        go_ret
        exact CmdPost.good HE.out ((HW.out.mono HBB.out).trans HT.out) HT2.out (by rw [if_neg HK1.out, if_neg HK2.out]) (labs_put _ _ _ HK3.out HS2.out.map.isMap HLL.out)
    have HK3 := hideT k3
    have m3 : ((c.nm.toNat : Int) == 58) = false := ne_byte c.nm 58 (by decide) k3
    clear k3
    have HE := hideT (show oneR pre st.length c = (0, st.length) by rw [HO.out, if_neg HK1.out, if_neg HK2.out, if_neg (fun h => HK3.out h.1)])
    go_wp2
    go_ret
    exact CmdPost.good HE.out (HW.out.mono HBB.out) HS2.out.more (by rw [if_neg HK1.out, if_neg HK2.out]) (labs_none _ _ _ HK3.out HLL.out)
end Go.Proofs.Ytdlceppiblodmaa
