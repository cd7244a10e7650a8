/- ScriptFields: the three tests of a command's fields. -/
import Derived.Test.YtjfkhlmoppbbgaaGreatDoorKXj2
import Derived.Deep.CutRange
import Derived.BigQuiet
namespace Go.Proofs.YtjfkhlmoppbbgaaGreatDoor
open Go.RowKit
open scanP scrP tpl ytb

def regOf (n : Nat) : Code → Option Code
  | .region k ops d => if k = n then some (.region k ops d) else none
  | .seq a b => match regOf n a with
    | some c => some c
    | none => regOf n b
  | .block _ c => regOf n c
  | .scope c => regOf n c
  | .loop c => regOf n c
  | .cond _ a b => match regOf n a with
    | some c => some c
    | none => regOf n b
  | _ => none
noncomputable def reg12 : Code := ((Tryz.f6.body.bind (regOf 12)).getD .skip)
set_option maxRecDepth 100000 in
set_option maxHeartbeats 4000000 in
theorem seg12 (K : Act → World → Prop) (E : Exit → Act → World → Prop) (W : World) (n : Nat) (u lb tx fl re fr tw : ByteArray) (np nh : Nat) (an pr : Bool) (hcl : Cls u lb tx fl re np nh an pr fr tw) (q9 : W.cell? ⟨n, 9, none⟩ = some (.string lb)) (q10 : W.cell? ⟨n, 10, none⟩ = some (.string tx)) (q11 : W.cell? ⟨n, 11, none⟩ = some (.string fl)) (q17 : W.cell? ⟨n, 17, none⟩ = some (.string fr)) (q18 : W.cell? ⟨n, 18, none⟩ = some (.string tw)) (a0 a1 a2 a3 a4 a5 a6 a9 a10 a11 a12 a13 a14 a15 a16 a17 a18 a19 a20 a21 a22 a23 a24 a25 a26 a27 a28 a29 a30 a31 a32 a33 a34 a35 a36 a37 a38 a39 a40 a41 a42 a43 a44 a45 a46 a47 a48 a49 a50 a51 a52 a53 a54 a55 a56 a57 a58 a59 a60 a61 a62 a63 a64 a65 a66 a67 a68 a69 a70 a71 a72 a73 a74 a75 a76 a77 a78 a79 a80 a81 a82 a83 a84 a85 a86 a87 a88 a89 a90 a91 a92 a93 a94 a95 a96 a97 a98 a99 a100 a101 a102 a103 a104 a105 a106 a107 a108 a109 a110 a111 a112 a113 a114 a115 a116 a117 a118 a119 a120 a121 a122 a123 a124 a125 a126 a127 a128 a129 a130 a131 a132 a133 a134 a135 a136 a137 a138 a139 a140 a141 a142 a143 a144 a145 a146 a147 a148 a149 a150 a151 a152 a153 a154 a155 a156 a157 a158 a159 a160 a161 a162 a163 a164 a165 a166 a167 a168 a169 a170 a171 a172 a173 a174 a175 a176 a177 a178 a179 a180 a181 a182 a183 a184 a185 a186 a187 a188 a189 a190 a191 a192 a193 a194 a195 a196 a197 a198 a199 : Value) (h : ∀ b79 b80 b81 b82 b83 b84 b85 b86 b87 b88 b89 b90 b91 b92 b93 b94 b95 b96 b97 b98 b99 b100 b101 b102 b103 b104 b105 b106 b107 b108 b109 b110 b111 b112 b113 b114 b115 b116 b117 b118 : Value, K ⟨#[a0, a1, a2, a3, a4, a5, a6, .pointer (some ⟨n, 0, none⟩), .string u, a9, a10, a11, a12, a13, a14, a15, a16, a17, a18, a19, a20, a21, a22, a23, a24, a25, a26, a27, a28, a29, a30, a31, a32, a33, a34, a35, a36, a37, a38, a39, a40, a41, a42, a43, a44, a45, a46, a47, a48, a49, a50, a51, a52, a53, a54, a55, a56, a57, a58, a59, a60, a61, a62, a63, a64, a65, a66, a67, a68, a69, a70, a71, a72, a73, a74, a75, a76, a77, a78, b79, b80, b81, b82, b83, b84, b85, b86, b87, b88, b89, b90, b91, b92, b93, b94, b95, b96, b97, b98, b99, b100, b101, b102, b103, b104, b105, b106, b107, b108, b109, b110, b111, b112, b113, b114, b115, b116, b117, b118, .bool false, a120, a121, a122, a123, a124, a125, a126, a127, a128, a129, a130, a131, a132, a133, a134, a135, a136, a137, a138, a139, a140, a141, a142, a143, a144, a145, a146, a147, a148, a149, a150, a151, a152, a153, a154, a155, a156, a157, a158, a159, a160, a161, a162, a163, a164, a165, a166, a167, a168, a169, a170, a171, a172, a173, a174, a175, a176, a177, a178, a179, a180, a181, a182, a183, a184, a185, a186, a187, a188, a189, a190, a191, a192, a193, a194, a195, a196, a197, a198, a199], []⟩ W) : Code.wp Tryz.prog reg12 (Exit.then K E) ⟨#[a0, a1, a2, a3, a4, a5, a6, .pointer (some ⟨n, 0, none⟩), .string u, a9, a10, a11, a12, a13, a14, a15, a16, a17, a18, a19, a20, a21, a22, a23, a24, a25, a26, a27, a28, a29, a30, a31, a32, a33, a34, a35, a36, a37, a38, a39, a40, a41, a42, a43, a44, a45, a46, a47, a48, a49, a50, a51, a52, a53, a54, a55, a56, a57, a58, a59, a60, a61, a62, a63, a64, a65, a66, a67, a68, a69, a70, a71, a72, a73, a74, a75, a76, a77, a78, a79, a80, a81, a82, a83, a84, a85, a86, a87, a88, a89, a90, a91, a92, a93, a94, a95, a96, a97, a98, a99, a100, a101, a102, a103, a104, a105, a106, a107, a108, a109, a110, a111, a112, a113, a114, a115, a116, a117, a118, a119, a120, a121, a122, a123, a124, a125, a126, a127, a128, a129, a130, a131, a132, a133, a134, a135, a136, a137, a138, a139, a140, a141, a142, a143, a144, a145, a146, a147, a148, a149, a150, a151, a152, a153, a154, a155, a156, a157, a158, a159, a160, a161, a162, a163, a164, a165, a166, a167, a168, a169, a170, a171, a172, a173, a174, a175, a176, a177, a178, a179, a180, a181, a182, a183, a184, a185, a186, a187, a188, a189, a190, a191, a192, a193, a194, a195, a196, a197, a198, a199], []⟩ W := by
  conv => arg 2; whnf
  have e00 : ((⟨#[]⟩ : ByteArray) ++ (⟨#[]⟩ : ByteArray)) = ⟨#[]⟩ := rfl
  have H := hideT h
  clear h
  rcases hcl with ⟨rfl, rfl, rfl, ⟨rfl, rfl⟩, rfl, rfl, rfl, rfl, rfl⟩ | ⟨rfl, ⟨t, htx⟩, rfl, rfl, ⟨rfl, rfl⟩, rfl, rfl, rfl, rfl, rfl⟩ | ⟨rfl, rfl, rfl, ⟨rfl, rfl⟩, rfl, rfl, rfl, rfl, rfl⟩ | ⟨rfl, rfl, rfl, ⟨rfl, rfl⟩, hn1, hn2⟩ | ⟨rfl, rfl, rfl, rfl, rfl, rfl, rfl, rfl, rfl⟩ | ⟨rfl, rfl, rfl, rfl, ⟨rfl, rfl⟩, rfl, rfl, rfl, rfl, rfl⟩
  · go_wp2_with fail
    refine (has_lit _ 76 true (by decide) (by decide) _).mono ?_
    rintro e w9 ⟨rfl, rfl⟩
    go_wp2_with fail
    refine (has_lit _ 84 false (by decide) (by decide) _).mono ?_
    rintro e w9 ⟨rfl, rfl⟩
    go_wp2_with fail
    refine (has_lit _ 70 false (by decide) (by decide) _).mono ?_
    rintro e w9 ⟨rfl, rfl⟩
    go_wp2_with fail
    refine (has_lit _ 89 false (by decide) (by decide) _).mono ?_
    rintro e w9 ⟨rfl, rfl⟩
    go_wp2_with fail
    have h := H.out
    exact h _ _ _ _ _ _ _ _ _ _ _ _ _ _ _ _ _ _ _ _ _ _ _ _ _ _ _ _ _ _ _ _ _ _ _ _ _ _ _ _
  · go_wp2_with fail
    refine (has_lit _ 76 false (by decide) (by decide) _).mono ?_
    rintro e w9 ⟨rfl, rfl⟩
    go_wp2_with fail
    refine (has_lit _ 84 true (by decide) (by decide) _).mono ?_
    rintro e w9 ⟨rfl, rfl⟩
    go_wp2_with fail
    refine (has_lit _ 70 false (by decide) (by decide) _).mono ?_
    rintro e w9 ⟨rfl, rfl⟩
    go_wp2_with fail
    refine (has_lit _ 89 false (by decide) (by decide) _).mono ?_
    rintro e w9 ⟨rfl, rfl⟩
    go_wp2_with fail
    have h := H.out
    exact h _ _ _ _ _ _ _ _ _ _ _ _ _ _ _ _ _ _ _ _ _ _ _ _ _ _ _ _ _ _ _ _ _ _ _ _ _ _ _ _
  · go_wp2_with fail
    refine (has_lit _ 76 false (by decide) (by decide) _).mono ?_
    rintro e w9 ⟨rfl, rfl⟩
    go_wp2_with fail
    refine (has_lit _ 84 false (by decide) (by decide) _).mono ?_
    rintro e w9 ⟨rfl, rfl⟩
    go_wp2_with fail
    refine (has_lit _ 70 true (by decide) (by decide) _).mono ?_
    rintro e w9 ⟨rfl, rfl⟩
    go_wp2_with fail
    refine (has_lit _ 89 false (by decide) (by decide) _).mono ?_
    rintro e w9 ⟨rfl, rfl⟩
    go_wp2_with fail
    have h := H.out
    exact h _ _ _ _ _ _ _ _ _ _ _ _ _ _ _ _ _ _ _ _ _ _ _ _ _ _ _ _ _ _ _ _ _ _ _ _ _ _ _ _
  · go_wp2_with fail
    refine (has_lit _ 76 false (by decide) (by decide) _).mono ?_
    rintro e w9 ⟨rfl, rfl⟩
    go_wp2_with fail
    refine (has_lit _ 84 false (by decide) (by decide) _).mono ?_
    rintro e w9 ⟨rfl, rfl⟩
    go_wp2_with fail
    refine (has_lit _ 70 true (by decide) (by decide) _).mono ?_
    rintro e w9 ⟨rfl, rfl⟩
    go_wp2_with fail
    refine (has_lit _ 89 false (by decide) (by decide) _).mono ?_
    rintro e w9 ⟨rfl, rfl⟩
    go_wp2_with fail
    have h := H.out
    exact h _ _ _ _ _ _ _ _ _ _ _ _ _ _ _ _ _ _ _ _ _ _ _ _ _ _ _ _ _ _ _ _ _ _ _ _ _ _ _ _
  · go_wp2_with fail
    refine (has_lit _ 76 false (by decide) (by decide) _).mono ?_
    rintro e w9 ⟨rfl, rfl⟩
    go_wp2_with fail
    refine (has_lit _ 84 false (by decide) (by decide) _).mono ?_
    rintro e w9 ⟨rfl, rfl⟩
    go_wp2_with fail
    refine (has_lit _ 70 false (by decide) (by decide) _).mono ?_
    rintro e w9 ⟨rfl, rfl⟩
    go_wp2_with fail
    refine (has_lit _ 89 true (by decide) (by decide) _).mono ?_
    rintro e w9 ⟨rfl, rfl⟩
    go_wp2_with fail
    have h := H.out
    exact h _ _ _ _ _ _ _ _ _ _ _ _ _ _ _ _ _ _ _ _ _ _ _ _ _ _ _ _ _ _ _ _ _ _ _ _ _ _ _ _
  · go_wp2_with fail
    refine (has_lit _ 76 false (by decide) (by decide) _).mono ?_
    rintro e w9 ⟨rfl, rfl⟩
    go_wp2_with fail
    refine (has_lit _ 84 false (by decide) (by decide) _).mono ?_
    rintro e w9 ⟨rfl, rfl⟩
    go_wp2_with fail
    refine (has_lit _ 70 false (by decide) (by decide) _).mono ?_
    rintro e w9 ⟨rfl, rfl⟩
    go_wp2_with fail
    refine (has_lit _ 89 false (by decide) (by decide) _).mono ?_
    rintro e w9 ⟨rfl, rfl⟩
    go_wp2_with fail
    have h := H.out
    exact h _ _ _ _ _ _ _ _ _ _ _ _ _ _ _ _ _ _ _ _ _ _ _ _ _ _ _ _ _ _ _ _ _ _ _ _ _ _ _ _
noncomputable def reg14 : Code := ((Tryz.f6.body.bind (regOf 14)).getD .skip)
set_option maxRecDepth 100000 in
set_option maxHeartbeats 4000000 in
theorem seg14 (K : Act → World → Prop) (E : Exit → Act → World → Prop) (W : World) (n : Nat) (u lb tx fl re fr tw : ByteArray) (np nh : Nat) (an pr : Bool) (hcl : Cls u lb tx fl re np nh an pr fr tw) (pp : Option Addr) (pn : Nat) (q12 : W.cell? ⟨n, 12, none⟩ = some (.string re)) (q13 : W.cell? ⟨n, 13, none⟩ = some (.slice pp np pn)) (q14 : W.cell? ⟨n, 14, none⟩ = some (.int .i64 (nh : Nat))) (q15 : W.cell? ⟨n, 15, none⟩ = some (.bool an)) (q16 : W.cell? ⟨n, 16, none⟩ = some (.bool pr)) (a0 a1 a2 a3 a4 a5 a6 a9 a10 a11 a12 a13 a14 a15 a16 a17 a18 a19 a20 a21 a22 a23 a24 a25 a26 a27 a28 a29 a30 a31 a32 a33 a34 a35 a36 a37 a38 a39 a40 a41 a42 a43 a44 a45 a46 a47 a48 a49 a50 a51 a52 a53 a54 a55 a56 a57 a58 a59 a60 a61 a62 a63 a64 a65 a66 a67 a68 a69 a70 a71 a72 a73 a74 a75 a76 a77 a78 a79 a80 a81 a82 a83 a84 a85 a86 a87 a88 a89 a90 a91 a92 a93 a94 a95 a96 a97 a98 a99 a100 a101 a102 a103 a104 a105 a106 a107 a108 a109 a110 a111 a112 a113 a114 a115 a116 a117 a118 a119 a120 a121 a122 a123 a124 a125 a126 a127 a128 a129 a130 a131 a132 a133 a134 a135 a136 a137 a138 a139 a140 a141 a142 a143 a144 a145 a146 a147 a148 a149 a150 a151 a152 a153 a154 a155 a156 a157 a158 a159 a160 a161 a162 a163 a164 a165 a166 a167 a168 a169 a170 a171 a172 a173 a174 a175 a176 a177 a178 a179 a180 a181 a182 a183 a184 a185 a186 a187 a188 a189 a190 a191 a192 a193 a194 a195 a196 a197 a198 a199 : Value) (h : ∀ b120 b121 b122 b123 b124 b125 b126 b127 b128 b129 b130 b131 b132 b133 b134 b135 b136 b137 b138 b139 b140 b141 b142 b143 b144 b145 b146 b147 b148 b149 b150 b151 b152 b153 b154 b155 b156 b157 b158 b159 : Value, K ⟨#[a0, a1, a2, a3, a4, a5, a6, .pointer (some ⟨n, 0, none⟩), .string u, a9, a10, a11, a12, a13, a14, a15, a16, a17, a18, a19, a20, a21, a22, a23, a24, a25, a26, a27, a28, a29, a30, a31, a32, a33, a34, a35, a36, a37, a38, a39, a40, a41, a42, a43, a44, a45, a46, a47, a48, a49, a50, a51, a52, a53, a54, a55, a56, a57, a58, a59, a60, a61, a62, a63, a64, a65, a66, a67, a68, a69, a70, a71, a72, a73, a74, a75, a76, a77, a78, a79, a80, a81, a82, a83, a84, a85, a86, a87, a88, a89, a90, a91, a92, a93, a94, a95, a96, a97, a98, a99, a100, a101, a102, a103, a104, a105, a106, a107, a108, a109, a110, a111, a112, a113, a114, a115, a116, a117, a118, a119, b120, b121, b122, b123, b124, b125, b126, b127, b128, b129, b130, b131, b132, b133, b134, b135, b136, b137, b138, b139, b140, b141, b142, b143, b144, b145, b146, b147, b148, b149, b150, b151, b152, b153, b154, b155, b156, b157, b158, b159, .bool false, a161, a162, a163, a164, a165, a166, a167, a168, a169, a170, a171, a172, a173, a174, a175, a176, a177, a178, a179, a180, a181, a182, a183, a184, a185, a186, a187, a188, a189, a190, a191, a192, a193, a194, a195, a196, a197, a198, a199], []⟩ W) : Code.wp Tryz.prog reg14 (Exit.then K E) ⟨#[a0, a1, a2, a3, a4, a5, a6, .pointer (some ⟨n, 0, none⟩), .string u, a9, a10, a11, a12, a13, a14, a15, a16, a17, a18, a19, a20, a21, a22, a23, a24, a25, a26, a27, a28, a29, a30, a31, a32, a33, a34, a35, a36, a37, a38, a39, a40, a41, a42, a43, a44, a45, a46, a47, a48, a49, a50, a51, a52, a53, a54, a55, a56, a57, a58, a59, a60, a61, a62, a63, a64, a65, a66, a67, a68, a69, a70, a71, a72, a73, a74, a75, a76, a77, a78, a79, a80, a81, a82, a83, a84, a85, a86, a87, a88, a89, a90, a91, a92, a93, a94, a95, a96, a97, a98, a99, a100, a101, a102, a103, a104, a105, a106, a107, a108, a109, a110, a111, a112, a113, a114, a115, a116, a117, a118, a119, a120, a121, a122, a123, a124, a125, a126, a127, a128, a129, a130, a131, a132, a133, a134, a135, a136, a137, a138, a139, a140, a141, a142, a143, a144, a145, a146, a147, a148, a149, a150, a151, a152, a153, a154, a155, a156, a157, a158, a159, a160, a161, a162, a163, a164, a165, a166, a167, a168, a169, a170, a171, a172, a173, a174, a175, a176, a177, a178, a179, a180, a181, a182, a183, a184, a185, a186, a187, a188, a189, a190, a191, a192, a193, a194, a195, a196, a197, a198, a199], []⟩ W := by
  conv => arg 2; whnf
  have H := hideT h
  clear h
  rcases hcl with ⟨rfl, rfl, rfl, ⟨rfl, rfl⟩, rfl, rfl, rfl, rfl, rfl⟩ | ⟨rfl, ⟨t, htx⟩, rfl, rfl, ⟨rfl, rfl⟩, rfl, rfl, rfl, rfl, rfl⟩ | ⟨rfl, rfl, rfl, ⟨rfl, rfl⟩, rfl, rfl, rfl, rfl, rfl⟩ | ⟨rfl, rfl, rfl, ⟨rfl, rfl⟩, hn1, hn2⟩ | ⟨rfl, rfl, rfl, rfl, rfl, rfl, rfl, rfl, rfl⟩ | ⟨rfl, rfl, rfl, rfl, ⟨rfl, rfl⟩, rfl, rfl, rfl, rfl, rfl⟩
  · go_wp2_with fail
    refine (has_lit _ 83 false (by decide) (by decide) _).mono ?_
    rintro e w9 ⟨rfl, rfl⟩
    go_wp2_with fail
    refine (has_lit _ 83 false (by decide) (by decide) _).mono ?_
    rintro e w9 ⟨rfl, rfl⟩
    go_wp2_with fail
    have h := H.out
    exact h _ _ _ _ _ _ _ _ _ _ _ _ _ _ _ _ _ _ _ _ _ _ _ _ _ _ _ _ _ _ _ _ _ _ _ _ _ _ _ _
  · go_wp2_with fail
    refine (has_lit _ 83 false (by decide) (by decide) _).mono ?_
    rintro e w9 ⟨rfl, rfl⟩
    go_wp2_with fail
    refine (has_lit _ 83 false (by decide) (by decide) _).mono ?_
    rintro e w9 ⟨rfl, rfl⟩
    go_wp2_with fail
    have h := H.out
    exact h _ _ _ _ _ _ _ _ _ _ _ _ _ _ _ _ _ _ _ _ _ _ _ _ _ _ _ _ _ _ _ _ _ _ _ _ _ _ _ _
  · go_wp2_with fail
    refine (has_lit _ 83 false (by decide) (by decide) _).mono ?_
    rintro e w9 ⟨rfl, rfl⟩
    go_wp2_with fail
    refine (has_lit _ 83 false (by decide) (by decide) _).mono ?_
    rintro e w9 ⟨rfl, rfl⟩
    go_wp2_with fail
    have h := H.out
    exact h _ _ _ _ _ _ _ _ _ _ _ _ _ _ _ _ _ _ _ _ _ _ _ _ _ _ _ _ _ _ _ _ _ _ _ _ _ _ _ _
  · have n1 : decide ((nh : Int) < 1) = false := by rw [decide_eq_false_iff_not]; omega
    have n2 : decide (512 < (nh : Int)) = false := by rw [decide_eq_false_iff_not]; omega
    have n3 : decide (nh < 1) = false := by rw [decide_eq_false_iff_not]; omega
    have n4 : decide (512 < nh) = false := by rw [decide_eq_false_iff_not]; omega
    go_wp2_with fail
    refine (has_lit _ 83 true (by decide) (by decide) _).mono ?_
    rintro e w9 ⟨rfl, rfl⟩
    go_wp2_with fail
    refine (has_lit _ 83 true (by decide) (by decide) _).mono ?_
    rintro e w9 ⟨rfl, rfl⟩
    go_wp2_with fail
    have h := H.out
    exact h _ _ _ _ _ _ _ _ _ _ _ _ _ _ _ _ _ _ _ _ _ _ _ _ _ _ _ _ _ _ _ _ _ _ _ _ _ _ _ _
  · go_wp2_with fail
    refine (has_lit _ 83 false (by decide) (by decide) _).mono ?_
    rintro e w9 ⟨rfl, rfl⟩
    go_wp2_with fail
    refine (has_lit _ 83 false (by decide) (by decide) _).mono ?_
    rintro e w9 ⟨rfl, rfl⟩
    go_wp2_with fail
    have h := H.out
    exact h _ _ _ _ _ _ _ _ _ _ _ _ _ _ _ _ _ _ _ _ _ _ _ _ _ _ _ _ _ _ _ _ _ _ _ _ _ _ _ _
  · go_wp2_with fail
    refine (has_lit _ 83 false (by decide) (by decide) _).mono ?_
    rintro e w9 ⟨rfl, rfl⟩
    go_wp2_with fail
    refine (has_lit _ 83 false (by decide) (by decide) _).mono ?_
    rintro e w9 ⟨rfl, rfl⟩
    go_wp2_with fail
    have h := H.out
    exact h _ _ _ _ _ _ _ _ _ _ _ _ _ _ _ _ _ _ _ _ _ _ _ _ _ _ _ _ _ _ _ _ _ _ _ _ _ _ _ _
noncomputable def reg16 : Code := ((Tryz.f6.body.bind (regOf 16)).getD .skip)
set_option maxRecDepth 100000 in
set_option maxHeartbeats 4000000 in
theorem seg16 (K : Act → World → Prop) (E : Exit → Act → World → Prop) (W : World) (n : Nat) (u lb tx fl re fr tw : ByteArray) (np nh : Nat) (an pr : Bool) (hcl : Cls u lb tx fl re np nh an pr fr tw) (ak bk : Nat) (had : ak = 0 → bk = 0) (hft : fr.size = tw.size) (hxl : tx.size ≤ 140737488355001) (q1 : W.cell? ⟨n, 1, none⟩ = some (.int .i64 (ak : Nat))) (q4 : W.cell? ⟨n, 4, none⟩ = some (.int .i64 (bk : Nat))) (q10 : W.cell? ⟨n, 10, none⟩ = some (.string tx)) (q17 : W.cell? ⟨n, 17, none⟩ = some (.string fr)) (q18 : W.cell? ⟨n, 18, none⟩ = some (.string tw)) (a0 a1 a2 a3 a4 a5 a6 a9 a10 a11 a12 a13 a14 a15 a16 a17 a18 a19 a20 a21 a22 a23 a24 a25 a26 a27 a28 a29 a30 a31 a32 a33 a34 a35 a36 a37 a38 a39 a40 a41 a42 a43 a44 a45 a46 a47 a48 a49 a50 a51 a52 a53 a54 a55 a56 a57 a58 a59 a60 a61 a62 a63 a64 a65 a66 a67 a68 a69 a70 a71 a72 a73 a74 a75 a76 a77 a78 a79 a80 a81 a82 a83 a84 a85 a86 a87 a88 a89 a90 a91 a92 a93 a94 a95 a96 a97 a98 a99 a100 a101 a102 a103 a104 a105 a106 a107 a108 a109 a110 a111 a112 a113 a114 a115 a116 a117 a118 a119 a120 a121 a122 a123 a124 a125 a126 a127 a128 a129 a130 a131 a132 a133 a134 a135 a136 a137 a138 a139 a140 a141 a142 a143 a144 a145 a146 a147 a148 a149 a150 a151 a152 a153 a154 a155 a156 a157 a158 a159 a160 a161 a162 a163 a164 a165 a166 a167 a168 a169 a170 a171 a172 a173 a174 a175 a176 a177 a178 a179 a180 a181 a182 a183 a184 a185 a186 a187 a188 a189 a190 a191 a192 a193 a194 a195 a196 a197 a198 a199 : Value) (h : ∀ b161 b162 b163 b164 b165 b166 b167 b168 b169 b170 b171 b172 b173 b174 b175 b176 b177 b178 b179 b180 b181 b182 b183 b184 b185 b186 b187 b188 b189 b190 b191 b192 b193 b194 b195 b196 b197 : Value, K ⟨#[a0, a1, a2, a3, a4, a5, a6, .pointer (some ⟨n, 0, none⟩), .string u, a9, a10, a11, a12, a13, a14, a15, a16, a17, a18, a19, a20, a21, a22, a23, a24, a25, a26, a27, a28, a29, a30, a31, a32, a33, a34, a35, a36, a37, a38, a39, a40, a41, a42, a43, a44, a45, a46, a47, a48, a49, a50, a51, a52, a53, a54, a55, a56, a57, a58, a59, a60, a61, a62, a63, a64, a65, a66, a67, a68, a69, a70, a71, a72, a73, a74, a75, a76, a77, a78, a79, a80, a81, a82, a83, a84, a85, a86, a87, a88, a89, a90, a91, a92, a93, a94, a95, a96, a97, a98, a99, a100, a101, a102, a103, a104, a105, a106, a107, a108, a109, a110, a111, a112, a113, a114, a115, a116, a117, a118, a119, a120, a121, a122, a123, a124, a125, a126, a127, a128, a129, a130, a131, a132, a133, a134, a135, a136, a137, a138, a139, a140, a141, a142, a143, a144, a145, a146, a147, a148, a149, a150, a151, a152, a153, a154, a155, a156, a157, a158, a159, a160, b161, b162, b163, b164, b165, b166, b167, b168, b169, b170, b171, b172, b173, b174, b175, b176, b177, b178, b179, b180, b181, b182, b183, b184, b185, b186, b187, b188, b189, b190, b191, b192, b193, b194, b195, b196, b197, .bool false, a199], []⟩ W) : Code.wp Tryz.prog reg16 (Exit.then K E) ⟨#[a0, a1, a2, a3, a4, a5, a6, .pointer (some ⟨n, 0, none⟩), .string u, a9, a10, a11, a12, a13, a14, a15, a16, a17, a18, a19, a20, a21, a22, a23, a24, a25, a26, a27, a28, a29, a30, a31, a32, a33, a34, a35, a36, a37, a38, a39, a40, a41, a42, a43, a44, a45, a46, a47, a48, a49, a50, a51, a52, a53, a54, a55, a56, a57, a58, a59, a60, a61, a62, a63, a64, a65, a66, a67, a68, a69, a70, a71, a72, a73, a74, a75, a76, a77, a78, a79, a80, a81, a82, a83, a84, a85, a86, a87, a88, a89, a90, a91, a92, a93, a94, a95, a96, a97, a98, a99, a100, a101, a102, a103, a104, a105, a106, a107, a108, a109, a110, a111, a112, a113, a114, a115, a116, a117, a118, a119, a120, a121, a122, a123, a124, a125, a126, a127, a128, a129, a130, a131, a132, a133, a134, a135, a136, a137, a138, a139, a140, a141, a142, a143, a144, a145, a146, a147, a148, a149, a150, a151, a152, a153, a154, a155, a156, a157, a158, a159, a160, a161, a162, a163, a164, a165, a166, a167, a168, a169, a170, a171, a172, a173, a174, a175, a176, a177, a178, a179, a180, a181, a182, a183, a184, a185, a186, a187, a188, a189, a190, a191, a192, a193, a194, a195, a196, a197, a198, a199], []⟩ W := by
  conv => arg 2; whnf
  have hT : u.data.toList.contains 84 = false ∧ u.size ≤ 1000000 ∨ u.data.toList.contains 84 = true ∧ u.size ≤ 1000000 ∧ ∃ t, tx = bst (t ++ [10]) := by
    rcases hcl with h | h | h | h | h | h
    · rw [h.1]; exact .inl ⟨by decide, by decide⟩
    · rw [h.1]; exact .inr ⟨by decide, by decide, h.2.1⟩
    · rw [h.1]; exact .inl ⟨by decide, by decide⟩
    · rw [h.1]; exact .inl ⟨by decide, by decide⟩
    · rw [h.1]; exact .inl ⟨by decide, by decide⟩
    · rw [h.1]; exact .inl ⟨by decide, by decide⟩
  have H := hideT h
  clear h hcl
  have y1 : ((fr.size : Int) != (tw.size : Int)) = false := by rw [bne_eq_false_iff_eq]; omega
  clear hft
  rcases hT with ⟨k84, hu⟩ | ⟨k84, hu, t, htx⟩
  · have H84 := hideT (has_lit u 84 false hu k84)
    clear k84
    by_cases hak : ak = 0
    · obtain rfl : bk = 0 := had hak
      subst hak
      clear had
      go_wp2_with fail
      refine (H84.out _).mono ?_
      rintro e w9 ⟨rfl, rfl⟩
      go_wp2_with fail
      have h := H.out
      exact h _ _ _ _ _ _ _ _ _ _ _ _ _ _ _ _ _ _ _ _ _ _ _ _ _ _ _ _ _ _ _ _ _ _ _ _ _
    · have z1 : ((ak : Int) == 0) = false := by rw [beq_eq_false_iff_ne]; omega
      clear hak had
      go_wp2_with fail
      refine (H84.out _).mono ?_
      rintro e w9 ⟨rfl, rfl⟩
      go_wp2_with fail
      have h := H.out
      exact h _ _ _ _ _ _ _ _ _ _ _ _ _ _ _ _ _ _ _ _ _ _ _ _ _ _ _ _ _ _ _ _ _ _ _ _ _
  · have H84 := hideT (has_lit u 84 true hu k84)
    clear k84
    have hm : t.length < tx.size := by rw [htx, bst_size, List.length_append, List.length_singleton]; omega
    have x0 : tx.size = t.length + 1 := by rw [htx, bst_size, List.length_append, List.length_singleton]
    have x1 : ¬ tx.toList = [] := by rw [ByteArray.toList_eq, htx]; simp [bst]
    have x1' : tx.toList.isEmpty = false := by rw [ByteArray.toList_eq, htx]; simp [bst]
    have x2 : IntKind.i64.wrap ((tx.size : Int) - 1) = (t.length : Int) := by rw [IntKind.wrap_i64]; omega
    have x3 : (t.length : Int) < (tx.size : Int) := by omega
    have x4 : (0 : Int) ≤ (t.length : Int) := by omega
    have x5 : (((tx[t.length]'hm).toNat : Int) != 10) = false := eq_val (d := 10) rfl (by subst htx; simp [bst, ByteArray.getElem_eq_getElem_data])
    clear htx x0
    generalize t.length = m at *
    by_cases hak : ak = 0
    · obtain rfl : bk = 0 := had hak
      subst hak
      clear had
      go_wp2_with fail
      refine (H84.out _).mono ?_
      rintro e w9 ⟨rfl, rfl⟩
      go_wp2_with fail
      have h := H.out
      exact h _ _ _ _ _ _ _ _ _ _ _ _ _ _ _ _ _ _ _ _ _ _ _ _ _ _ _ _ _ _ _ _ _ _ _ _ _
    · have z1 : ((ak : Int) == 0) = false := by rw [beq_eq_false_iff_ne]; omega
      clear hak had
      go_wp2_with fail
      refine (H84.out _).mono ?_
      rintro e w9 ⟨rfl, rfl⟩
      go_wp2_with fail
      have h := H.out
      exact h _ _ _ _ _ _ _ _ _ _ _ _ _ _ _ _ _ _ _ _ _ _ _ _ _ _ _ _ _ _ _ _ _ _ _ _ _
end Go.Proofs.YtjfkhlmoppbbgaaGreatDoor

/- ScriptFields: the walk, where there is no fault. -/
namespace Go.Proofs.YtjfkhlmoppbbgaaGreatDoor
open Go.RowKit
open scanP scrP tpl ytb

set_option maxRecDepth 100000 in
set_option maxHeartbeats 4000000 in
theorem fields_good (s : ByteArray) (hs : s.size ≤ 140737488355000) (w : World) (hg : Gl w) (he : (scrR gM s.data.toList).2.2.1 = 0) : Calls Tryz.prog 6 #[.string s] w fun e w' => e = .returned (.bool true) ∧ Below w.heap.size w w' := by
  have HA := hideT (awake_any w hg)
  have HG := hideT hg
  clear hg
  have hF := scr_fields he
  have hT := scr_tx he
  go_enter Tryz.func6, Tryz.ntmps6
  go_wp2_with fail
  refine HA.out.mono ?_
  rintro e w1 ⟨rfl, hb⟩
  have HP := hideT (parse_reads s hs w1 (HG.out.below hb))
  revert HP
  generalize scrR gM s.data.toList = RR at *
  obtain ⟨cs, q, E, P⟩ := RR
  simp only at he hF hT
  subst he
  intro HP
  have HB := hideT hb
  clear hb HA HG
  go_wp2_with fail
  refine HP.out.mono ?_
  rintro e w2 ⟨v, rfl, hC, hb⟩
  obtain ⟨a, cp, rfl, hC⟩ := hC
  have hlen : cs.length ≤ s.size := hF.len
  have HF := hideT hF
  have HT := hideT hT
  have hA := (Below.refl w2.heap.size w2).alloc (Nat.le_refl _) (.cells #[.int .i64 0, .int .i64 (P : Int)] 25)
  have HB2 := hideT ((HB.out.trans (hb.mono HB.out.size)).trans (hA.mono (HB.out.trans (hb.mono HB.out.size)).size))
  have HC := hideT (fun (k : Nat) (c : Co) (hk : cs[k]? = some c) => (let ⟨g, o, pv, h1, h2, h3⟩ := hC k c hk; ⟨g, o, pv, h1, h3.shape, range_keep h2 (hA.block g (range_lt h2))⟩ : ∃ g o pv, a = some (⟨g, o, none⟩ : Addr) ∧ (∃ p n, pv = .slice p c.ps.length n) ∧ (w2.alloc (.cells #[.int .i64 0, .int .i64 (P : Int)] 25)).rangeAt g (o + k * 19) (coV c pv)))
  clear hC hF hT hb HP HB hA
  go_wp2_with fail
  revert HC HB2
  generalize w2.alloc (.cells #[.int .i64 0, .int .i64 (P : Int)] 25) = X
  intro HB2 HC
  go_loopw [37] (fun i wr => ∃ k : Nat, k ≤ cs.length ∧ i = .int .i64 k ∧ Hid (Below X.heap.size X wr)) (fun i _ => cs.length - (intOf i).toNat)
  case atStart => exact ⟨0, by omega, rfl, hideT (Below.refl _ _)⟩
  case round =>
    obtain ⟨k, hk, rfl, HW⟩ := hrel
    by_cases hlt : k < cs.length
    · obtain ⟨g, o, pv, rfl, ⟨pp, pn, hpv⟩, a1⟩ := HC.out k _ (List.getElem?_eq_getElem hlt)
      obtain ⟨f1, f2⟩ := HF.out.fo _ (List.getElem_mem hlt)
      have hT := HT.out _ (List.getElem_mem hlt)
      have hup := fun m (hm : k = m + 1) => (⟨HF.out.up m _ _ (List.getElem?_eq_getElem (by omega)) (by rw [← hm]; exact List.getElem?_eq_getElem hlt), HC.out m _ (List.getElem?_eq_getElem (show m < cs.length by omega))⟩ : (cs[m]'(by omega)).pl < (cs[k]'hlt).pl ∧ ∃ g' o' pv', some (⟨g, o, none⟩ : Addr) = some ⟨g', o', none⟩ ∧ (∃ p n, pv' = .slice p (cs[m]'(by omega)).ps.length n) ∧ X.rangeAt g' (o' + m * 19) (coV (cs[m]'(by omega)) pv'))
      generalize (cs[k]'hlt) = c at *
      have i1 : (k : Int) < (cs.length : Int) := by omega
      have i2 : (0 : Int) ≤ (k : Int) := by omega
      have q1 := range_keep a1 (HW.out.block g (range_lt a1))
      obtain ⟨xs, hxs⟩ : ∃ xs, xs = coV c pv := ⟨_, rfl⟩
      have hlx : xs.length = 19 := by rw [hxs]; rfl
      rw [← hxs] at q1
      have HQ := hideT q1
      have IM := hideT (show (Tryz.prog.info? 41).map (·.size) = some xs.length by rw [hlx]; exact info_cmd)
      have hN4 := heap_alloc_new wr (.cells #[.int .i64 0, .int .i64 0, .int .i64 0, .string ⟨#[]⟩, .int .i64 0, .int .i64 0, .string ⟨#[]⟩, .bool false, .int .u8 0, .string ⟨#[]⟩, .string ⟨#[]⟩, .string ⟨#[]⟩, .string ⟨#[]⟩, .slice none 0 0, .int .i64 0, .bool false, .bool false, .string ⟨#[]⟩, .string ⟨#[]⟩] 41)
      have hA4 := (Below.refl wr.heap.size wr).alloc (Nat.le_refl _) (.cells #[.int .i64 0, .int .i64 0, .int .i64 0, .string ⟨#[]⟩, .int .i64 0, .int .i64 0, .string ⟨#[]⟩, .bool false, .int .u8 0, .string ⟨#[]⟩, .string ⟨#[]⟩, .string ⟨#[]⟩, .string ⟨#[]⟩, .slice none 0 0, .int .i64 0, .bool false, .bool false, .string ⟨#[]⟩, .string ⟨#[]⟩] 41)
      have O9 := hideT (show xs.toArray.all (·.oneCell') = true by rw [hxs, hpv]; exact coV_one _ _ rfl)
      have IN9 := hideT (show (Tryz.prog.info? 41).map (·.size) = some xs.toArray.size by rw [show xs.toArray.size = 19 from hlx]; exact info_cmd)
      have TH9 := hideT (show (wr.alloc (.cells #[.int .i64 0, .int .i64 0, .int .i64 0, .string ⟨#[]⟩, .int .i64 0, .int .i64 0, .string ⟨#[]⟩, .bool false, .int .u8 0, .string ⟨#[]⟩, .string ⟨#[]⟩, .string ⟨#[]⟩, .string ⟨#[]⟩, .slice none 0 0, .int .i64 0, .bool false, .bool false, .string ⟨#[]⟩, .string ⟨#[]⟩] 41)).there wr.heap.size 0 xs.toArray.size by rw [show xs.toArray.size = 19 from hlx]; exact there_block hN4 19 rfl)
      have hn4 := setCells_whole (cs := [.int .i64 0, .int .i64 0, .int .i64 0, .string ⟨#[]⟩, .int .i64 0, .int .i64 0, .string ⟨#[]⟩, .bool false, .int .u8 0, .string ⟨#[]⟩, .string ⟨#[]⟩, .string ⟨#[]⟩, .string ⟨#[]⟩, .slice none 0 0, .int .i64 0, .bool false, .bool false, .string ⟨#[]⟩, .string ⟨#[]⟩]) xs hN4 (by rw [hlx]; rfl)
      have hS4 := below_setCells wr.heap.size (Nat.le_refl _) xs _ 0 hA4
      have hS5 := HW.out.trans (hS4.mono HW.out.size)
      have HM := hideT (fun m (hm : k = m + 1) => (let ⟨u1, g', o', pv', e1, _, u2⟩ := hup m hm; by
        cases e1
        exact ⟨_, u1, range_keep u2 (hS5.block g (range_lt u2)) 0 _ rfl⟩ : ∃ z : Nat, z < c.pl ∧ World.cell? _ ⟨g, o + m * 19 + 0, none⟩ = some (.int .i64 (z : Int))))
      have HN := hideT (And.intro hn4 hS5)
      have HX := hideT hxs
      have HFO := hideT (And.intro f1 f2)
      have HTX := hideT hT
      have HPV := hideT hpv
      have HBr := hideT hS4
      clear hN4 hA4 hn4 hS4 hS5 hup hxs a1 q1 f1 f2 hlx hpv hT
      go_wp2_with (first | (refine wpList_load_mid rfl 41 _ rfl g (o + k * 19) rfl xs _ HQ.out und_cmd rfl IM.out ?_) | (refine wpList_store_mid rfl 41 _ _ rfl wr.heap.size 0 xs.toArray rfl rfl TH9.out IN9.out O9.out ?_))
      revert HM HN HBr
      generalize World.setCells _ wr.heap.size 0 xs = W8
      intro HM HN HBr
      have q19 : ∀ (j : Nat) (u : Value), xs[j]? = some u → W8.cell? ⟨wr.heap.size, j, none⟩ = some u := fun j u hu => CmAt.cell HN.out.1 j hu
      have e19 := HX.out
      have q0 := q19 0 (.int .i64 (c.pl : Nat)) (by rw [e19]; rfl)
      have q1 := q19 1 (.int .i64 (c.a.k : Nat)) (by rw [e19]; rfl)
      have q4 := q19 4 (.int .i64 (c.b.k : Nat)) (by rw [e19]; rfl)
      have q8 := q19 8 (.int .u8 (c.nm.toNat : Nat)) (by rw [e19]; rfl)
      have HQ9 := hideT (fun (j : Nat) (u : Value) (h : (coV c pv)[j]? = some u) => q19 j u (by rw [e19]; exact h))
      have hpl : c.pl < s.size := (List.getElem?_eq_some_iff.1 HFO.out.2).1
      have t1 : decide ((c.pl : Int) < 0) = false := by rw [decide_eq_false_iff_not]; omega
      have t2 : decide ((s.size : Int) ≤ (c.pl : Int)) = false := by rw [decide_eq_false_iff_not]; omega
      have t2n : decide (s.size ≤ c.pl) = false := by rw [decide_eq_false_iff_not]; omega
      have t3 : (c.pl : Int) < (s.size : Int) := by omega
      have t4 : (0 : Int) ≤ (c.pl : Int) := by omega
      have t5 : (((s[c.pl]'hpl).toNat : Int) != (c.nm.toNat : Int)) = false := eq_val rfl (by
        have h := HFO.out.2
        rw [List.getElem?_eq_getElem (show c.pl < s.data.toList.length from hpl)] at h
        exact Option.some.inj h)
      clear q19 e19 IM O9 IN9 TH9 HQ
      simp only [Act.put]
      go_cut [75] from 38 to 199 (fun s75 w' => s75 = .bool false ∧ ∃ n, w' = W8.drewN n)
      case first =>
        by_cases h0 : k = 0
        · have i3 : decide (0 < k) = false := by rw [decide_eq_false_iff_not]; omega
          clear h0
          go_big_quiet (fail)
          go_wp2
          go_meet
          case rel => exact ⟨rfl, _, rfl⟩
        · obtain ⟨m, hm⟩ : ∃ m, k = m + 1 := ⟨k - 1, by omega⟩
          obtain ⟨z, hz, qz⟩ := HM.out m hm
          have i3 : 0 < k := by omega
          have i3' : decide (0 < k) = true := by rw [decide_eq_true_iff]; omega
          have i4 : IntKind.i64.wrap ((k : Int) - 1) = (m : Int) := by rw [IntKind.wrap_i64]; omega
          have i5 : (m : Int) < (cs.length : Int) := by omega
          have i6 : (0 : Int) ≤ (m : Int) := by omega
          have t6 : decide ((c.pl : Int) ≤ (z : Int)) = false := by rw [decide_eq_false_iff_not]; omega
          have t6n : decide (c.pl ≤ z) = false := by rw [decide_eq_false_iff_not]; omega
          rw [Nat.add_zero] at qz
          clear h0 hm hz HM
          go_big_quiet (fail)
          go_wp2
          go_meet
          case rel => exact ⟨rfl, _, rfl⟩
      case rest =>
        obtain ⟨rfl, nq, rfl⟩ := hcut
        have HU := hideT (used_any c.nm)
        have hcl := cls HFO.out.1
        have hft : (bst c.fr).size = (bst c.to).size := by rw [bst_size, bst_size]; exact HFO.out.1.ft
        have had := HFO.out.1.ad
        have q9 := HQ9.out 9 _ rfl
        have q10 := HQ9.out 10 _ rfl
        have q11 := HQ9.out 11 _ rfl
        have q12 := HQ9.out 12 _ rfl
        have q13 := HQ9.out 13 _ rfl
        have q14 := HQ9.out 14 _ rfl
        have q15 := HQ9.out 15 _ rfl
        have q16 := HQ9.out 16 _ rfl
        have q17 := HQ9.out 17 _ rfl
        have q18 := HQ9.out 18 _ rfl
        rw [HPV.out] at q13
        generalize usB c.nm = u at *
        generalize bst c.lb = lb at *
        obtain ⟨tx, HTX2⟩ : ∃ x, Hid (bst c.tx = x) := ⟨_, hideT rfl⟩
        rw [HTX2.out] at q10 hcl
        generalize bst c.fl = fl at *
        generalize bst c.re = re at *
        generalize bst c.fr = fr at *
        generalize bst c.to = tw at *
        generalize c.ps.length = np at *
        generalize c.nh = nh at *
        generalize c.an = an at *
        generalize c.pr = pr at *
        generalize c.a.k = ak at *
        generalize c.b.k = bk at *
        have hxl : tx.size ≤ 140737488355001 := by rw [← HTX2.out, bst_size]; have := HTX.out; have e : s.data.toList.length = s.size := rfl; omega
        go_wp2_with fail
        refine (HU.out _).mono ?_
        rintro e w9 ⟨rfl, rfl⟩
        have HEND := hideT (show Below X.heap.size X (W8.drewN nq) from ⟨HN.out.2.os, HN.out.2.tape, HN.out.2.output, HN.out.2.size, HN.out.2.block⟩)
        have HCL := hideT hcl
        have HAD := hideT had
        clear hcl had HU HM HN HBr HQ9 HFO HTX HTX2 HPV HX HF HT HC q0 q8 hpl t1 t2 t2n t3 t4 t5 HW HB2
        go_upto_region 12 with fail
        go_cut [119] from 38 to 199 (fun s119 w' => s119 = .bool false ∧ w' = W8.drewN nq)
        case first =>
          refine seg12 _ _ (W8.drewN nq) _ u lb tx fl re fr tw np nh an pr HCL.out q9 q10 q11 q17 q18 _ _ _ _ _ _ _ _ _ _ _ _ _ _ _ _ _ _ _ _ _ _ _ _ _ _ _ _ _ _ _ _ _ _ _ _ _ _ _ _ _ _ _ _ _ _ _ _ _ _ _ _ _ _ _ _ _ _ _ _ _ _ _ _ _ _ _ _ _ _ _ _ _ _ _ _ _ _ _ _ _ _ _ _ _ _ _ _ _ _ _ _ _ _ _ _ _ _ _ _ _ _ _ _ _ _ _ _ _ _ _ _ _ _ _ _ _ _ _ _ _ _ _ _ _ _ _ _ _ _ _ _ _ _ _ _ _ _ _ _ _ _ _ _ _ _ _ _ _ _ _ _ _ _ _ _ _ _ _ _ _ _ _ _ _ _ _ _ _ _ _ _ _ _ _ _ _ _ _ _ _ _ _ _ _ _ _ _ _ _ _ _ _ _ _ _ _ _ ?_
          intros
          dsimp only
          go_wp2_with fail
          go_meet
          case rel => exact ⟨rfl, rfl⟩
        case rest =>
          obtain ⟨rfl, rfl⟩ := hcut
          go_upto_region 14 with fail
          go_cut [160] from 38 to 199 (fun s160 w' => s160 = .bool false ∧ w' = W8.drewN nq)
          case first =>
            refine seg14 _ _ (W8.drewN nq) _ u lb tx fl re fr tw np nh an pr HCL.out pp pn q12 q13 q14 q15 q16 _ _ _ _ _ _ _ _ _ _ _ _ _ _ _ _ _ _ _ _ _ _ _ _ _ _ _ _ _ _ _ _ _ _ _ _ _ _ _ _ _ _ _ _ _ _ _ _ _ _ _ _ _ _ _ _ _ _ _ _ _ _ _ _ _ _ _ _ _ _ _ _ _ _ _ _ _ _ _ _ _ _ _ _ _ _ _ _ _ _ _ _ _ _ _ _ _ _ _ _ _ _ _ _ _ _ _ _ _ _ _ _ _ _ _ _ _ _ _ _ _ _ _ _ _ _ _ _ _ _ _ _ _ _ _ _ _ _ _ _ _ _ _ _ _ _ _ _ _ _ _ _ _ _ _ _ _ _ _ _ _ _ _ _ _ _ _ _ _ _ _ _ _ _ _ _ _ _ _ _ _ _ _ _ _ _ _ _ _ _ _ _ _ _ _ _ _ _ ?_
            intros
            dsimp only
            go_wp2_with fail
            go_meet
            case rel => exact ⟨rfl, rfl⟩
          case rest =>
            obtain ⟨rfl, rfl⟩ := hcut
            go_upto_region 16 with fail
            go_cut [198] from 38 to 199 (fun s198 w' => s198 = .bool false ∧ w' = W8.drewN nq)
            case first =>
              refine seg16 _ _ (W8.drewN nq) _ u lb tx fl re fr tw np nh an pr HCL.out ak bk HAD.out hft hxl q1 q4 q10 q17 q18 _ _ _ _ _ _ _ _ _ _ _ _ _ _ _ _ _ _ _ _ _ _ _ _ _ _ _ _ _ _ _ _ _ _ _ _ _ _ _ _ _ _ _ _ _ _ _ _ _ _ _ _ _ _ _ _ _ _ _ _ _ _ _ _ _ _ _ _ _ _ _ _ _ _ _ _ _ _ _ _ _ _ _ _ _ _ _ _ _ _ _ _ _ _ _ _ _ _ _ _ _ _ _ _ _ _ _ _ _ _ _ _ _ _ _ _ _ _ _ _ _ _ _ _ _ _ _ _ _ _ _ _ _ _ _ _ _ _ _ _ _ _ _ _ _ _ _ _ _ _ _ _ _ _ _ _ _ _ _ _ _ _ _ _ _ _ _ _ _ _ _ _ _ _ _ _ _ _ _ _ _ _ _ _ _ _ _ _ _ _ _ _ _ _ _ _ _ _ ?_
              intros
              dsimp only
              go_wp2_with fail
              go_meet
              case rel => exact ⟨rfl, rfl⟩
            case rest =>
              obtain ⟨rfl, rfl⟩ := hcut
              clear HCL HAD q1 q4 q9 q10 q11 q12 q13 q14 q15 q16 q17 q18 hxl hft
              go_wp2_with fail
              exact ⟨⟨k + 1, by omega, by go_num, HEND⟩, by simp [intOf]; omega⟩
    · obtain rfl : k = cs.length := by omega
      have i1 : ((cs.length : Int) < (cs.length : Int)) = False := by rw [eq_iff_iff, iff_false]; omega
      go_wp2
      go_ret
      exact ⟨rfl, HB2.out.trans (HW.out.mono HB2.out.size)⟩
theorem fields_any (s : ByteArray) (hs : s.size ≤ 140737488355000) (w : World) (hg : Gl w) : Calls Tryz.prog 6 #[.string s] w fun e w' => e = .returned (.bool true) ∧ Below w.heap.size w w' := by
  by_cases he : (scrR gM s.data.toList).2.2.1 = 0
  · exact fields_good s hs w hg he
  · exact fields_bad s hs w hg he
end Go.Proofs.YtjfkhlmoppbbgaaGreatDoor
