/-
  The document's Make: the rules' loop.
-/
import Derived.Test.YtoodlhagecannaaMake4
namespace Go.Proofs.Ytoodlhagecannaa
open Go.RowKit
set_option linter.unusedVariables false

/-- The first loop of a code, and what stands behind it. -/
def mkLoop : Code → Option Code
  | .loop c => some c
  | .seq a b => match mkLoop a with
    | some c => some c
    | none => mkLoop b
  | .block _ c => mkLoop c
  | .scope c => mkLoop c
  | .cond _ a b => match mkLoop a with
    | some c => some c
    | none => mkLoop b
  | _ => none

def mkTail : Code → Option Code
  | .seq a b => match mkLoop a with
    | some _ => some b
    | none => mkTail b
  | .block _ c => mkTail c
  | .scope c => mkTail c
  | _ => none

noncomputable def makeLoop : Code := ((Try.f12.body.bind mkLoop).getD .skip)
noncomputable def makeTail : Code := ((Try.f12.body.bind mkTail).getD .skip)

set_option maxRecDepth 1000000 in
/-- What stands behind the rules' loop; u: what its slots were left at. -/
def RulesDone (w : World) (rules : List (LineD × Value)) (slots : List Int) (ra : Option Addr) (rc : Nat) (sa : Option Addr) (sc : Nat) (ba dr pa of_ : Int) (br : Bool) (lo : Int) (dl : List Value) (a : Act) (w' : World) : Prop :=
  ∃ (i : Nat) (crv : Value) (rs : List (Rul × Value)) (u : Nat → Value), i ≤ 8 ∧ 1 ≤ i ∧ i ≤ rules.length + 1 ∧ Hid (¬((i < rules.length ∧ i < 8) ∨ i = 0)) ∧ Hid (rs.length = i) ∧ Hid (MkS w w' dl crv (.slice none 0 0) rs) ∧ Hid (LikeL rules rs) ∧
    a = ⟨List.toArray ((.agg #[.slice ra rules.length rc, .slice sa slots.length sc, .int .u8 ba, .int .u8 dr, .int .u8 pa, .int .u8 of_, .bool br, .int .u8 lo]) :: (.pointer (some ⟨w.heap.size, 0, none⟩)) :: (.pointer (some ⟨w.heap.size + 1, 0, none⟩)) :: (.pointer (some ⟨w.heap.size + 1 + 1 + 1, 0, none⟩)) :: (.int .i64 (i : Int)) :: (u 5) :: (u 6) :: (u 7) :: (u 8) :: (undef) :: (undef) :: (undef) :: (undef) :: (undef) :: (undef) :: (undef) :: (undef) :: (undef) :: (.agg #[.int .i64 (-100), .int .i64 300]) :: (.agg #[.int .i64 0, .int .i64 250]) :: (.agg #[.int .i64 (-2147483648), .int .i64 2147483647]) :: (.slice (some ⟨w.heap.size + 1 + 1, 0, none⟩) 3 3) :: (.agg #[.slice (some ⟨w.heap.size + 1 + 1, 0, none⟩) 3 3, .slice none 0 0, .slice none 0 0, .int .i64 0, .int .i64 0, .int .i64 0, .int .i64 0, .int .i64 0, .int .i64 0, .bool false, .int .i64 0]) :: (u 23) :: (u 24) :: (u 25) :: (u 26) :: (u 27) :: (u 28) :: (u 29) :: (u 30) :: (u 31) :: (u 32) :: (u 33) :: (u 34) :: (u 35) :: (u 36) :: (u 37) :: (u 38) :: (u 39) :: (u 40) :: (u 41) :: (u 42) :: (u 43) :: (u 44) :: (u 45) :: (u 46) :: (u 47) :: (u 48) :: (u 49) :: (u 50) :: (u 51) :: (u 52) :: (u 53) :: (u 54) :: (u 55) :: (u 56) :: (u 57) :: (u 58) :: (u 59) :: (u 60) :: (u 61) :: (u 62) :: (u 63) :: (u 64) :: (u 65) :: (u 66) :: (u 67) :: (u 68) :: (u 69) :: (u 70) :: (u 71) :: (u 72) :: (u 73) :: (u 74) :: (u 75) :: (u 76) :: (u 77) :: (u 78) :: (u 79) :: (u 80) :: (u 81) :: (u 82) :: (u 83) :: (u 84) :: (u 85) :: (u 86) :: (u 87) :: (u 88) :: (u 89) :: (u 90) :: (u 91) :: (u 92) :: (u 93) :: (u 94) :: (u 95) :: (u 96) :: (u 97) :: (u 98) :: (u 99) :: (u 100) :: (u 101) :: (u 102) :: (u 103) :: (u 104) :: (u 105) :: (u 106) :: (u 107) :: (u 108) :: (u 109) :: (u 110) :: (u 111) :: (u 112) :: (u 113) :: (u 114) :: (u 115) :: (u 116) :: (u 117) :: (u 118) :: (u 119) :: (u 120) :: (u 121) :: (u 122) :: (u 123) :: (u 124) :: (u 125) :: (u 126) :: (u 127) :: (u 128) :: (u 129) :: (u 130) :: (u 131) :: (u 132) :: (u 133) :: (u 134) :: (u 135) :: (u 136) :: (u 137) :: (u 138) :: (u 139) :: (u 140) :: (u 141) :: (u 142) :: (u 143) :: (u 144) :: (u 145) :: (u 146) :: (u 147) :: (u 148) :: (u 149) :: (u 150) :: (u 151) :: (u 152) :: (u 153) :: (u 154) :: (u 155) :: (u 156) :: (u 157) :: (u 158) :: (u 159) :: (u 160) :: (u 161) :: (u 162) :: (u 163) :: (u 164) :: (u 165) :: (u 166) :: (u 167) :: (u 168) :: (u 169) :: (u 170) :: (u 171) :: (u 172) :: (undef) :: (undef) :: (undef) :: (undef) :: (undef) :: (undef) :: (undef) :: (undef) :: (undef) :: (undef) :: (undef) :: (undef) :: (undef) :: (undef) :: (undef) :: (undef) :: (undef) :: (undef) :: (undef) :: (undef) :: (undef) :: (undef) :: (undef) :: (undef) :: (undef) :: (undef) :: (undef) :: (undef) :: (undef) :: (undef) :: (undef) :: (undef) :: (undef) :: (undef) :: (undef) :: (undef) :: (undef) :: (undef) :: (undef) :: (undef) :: (undef) :: (undef) :: (undef) :: (undef) :: (undef) :: (undef) :: (undef) :: (undef) :: (undef) :: (undef) :: (undef) :: (undef) :: (undef) :: (undef) :: (undef) :: (undef) :: (undef) :: (undef) :: (undef) :: (undef) :: (undef) :: (undef) :: (undef) :: (undef) :: (undef) :: (undef) :: (undef) :: (undef) :: (undef) :: (undef) :: (undef) :: (undef) :: (undef) :: (undef) :: (undef) :: (undef) :: (undef) :: (undef) :: (undef) :: (undef) :: (undef) :: (undef) :: (undef) :: (undef) :: (undef) :: (undef) :: (undef) :: (undef) :: (undef) :: (undef) :: (undef) :: (undef) :: (undef) :: (undef) :: (undef) :: (undef) :: (undef) :: (undef) :: (undef) :: (undef) :: (undef) :: (undef) :: (undef) :: (undef) :: (undef) :: (undef) :: (undef) :: (undef) :: (undef) :: (undef) :: (undef) :: (undef) :: (undef) :: (undef) :: (undef) :: (undef) :: (undef) :: (undef) :: (undef) :: (undef) :: (undef) :: (undef) :: (undef) :: (undef) :: (undef) :: (undef) :: (undef) :: (undef) :: (undef) :: (undef) :: (undef) :: (undef) :: (undef) :: (undef) :: (undef) :: (undef) :: (undef) :: (undef) :: (undef) :: (undef) :: (undef) :: (undef) :: (undef) :: (undef) :: []), []⟩

set_option maxRecDepth 1000000 in
theorem RulesDone.of (w : World) (rules : List (LineD × Value)) (slots : List Int) (ra : Option Addr) (rc : Nat) (sa : Option Addr) (sc : Nat) (ba dr pa of_ : Int) (br : Bool) (lo : Int) (dl : List Value) (a : Act) (w' : World) (i : Nat) (crv : Value) (rs : List (Rul × Value)) (h1 : i ≤ 8) (h2 : 1 ≤ i) (h3 : i ≤ rules.length + 1) (h3' : Hid (¬((i < rules.length ∧ i < 8) ∨ i = 0))) (h4 : Hid (rs.length = i)) (h5 : Hid (MkS w w' dl crv (.slice none 0 0) rs)) (h5' : Hid (LikeL rules rs))
    (h6 : a = ⟨List.toArray ((.agg #[.slice ra rules.length rc, .slice sa slots.length sc, .int .u8 ba, .int .u8 dr, .int .u8 pa, .int .u8 of_, .bool br, .int .u8 lo]) :: (.pointer (some ⟨w.heap.size, 0, none⟩)) :: (.pointer (some ⟨w.heap.size + 1, 0, none⟩)) :: (.pointer (some ⟨w.heap.size + 1 + 1 + 1, 0, none⟩)) :: (.int .i64 (i : Int)) :: (a.tmps.getD 5 undef) :: (a.tmps.getD 6 undef) :: (a.tmps.getD 7 undef) :: (a.tmps.getD 8 undef) :: (undef) :: (undef) :: (undef) :: (undef) :: (undef) :: (undef) :: (undef) :: (undef) :: (undef) :: (.agg #[.int .i64 (-100), .int .i64 300]) :: (.agg #[.int .i64 0, .int .i64 250]) :: (.agg #[.int .i64 (-2147483648), .int .i64 2147483647]) :: (.slice (some ⟨w.heap.size + 1 + 1, 0, none⟩) 3 3) :: (.agg #[.slice (some ⟨w.heap.size + 1 + 1, 0, none⟩) 3 3, .slice none 0 0, .slice none 0 0, .int .i64 0, .int .i64 0, .int .i64 0, .int .i64 0, .int .i64 0, .int .i64 0, .bool false, .int .i64 0]) :: (a.tmps.getD 23 undef) :: (a.tmps.getD 24 undef) :: (a.tmps.getD 25 undef) :: (a.tmps.getD 26 undef) :: (a.tmps.getD 27 undef) :: (a.tmps.getD 28 undef) :: (a.tmps.getD 29 undef) :: (a.tmps.getD 30 undef) :: (a.tmps.getD 31 undef) :: (a.tmps.getD 32 undef) :: (a.tmps.getD 33 undef) :: (a.tmps.getD 34 undef) :: (a.tmps.getD 35 undef) :: (a.tmps.getD 36 undef) :: (a.tmps.getD 37 undef) :: (a.tmps.getD 38 undef) :: (a.tmps.getD 39 undef) :: (a.tmps.getD 40 undef) :: (a.tmps.getD 41 undef) :: (a.tmps.getD 42 undef) :: (a.tmps.getD 43 undef) :: (a.tmps.getD 44 undef) :: (a.tmps.getD 45 undef) :: (a.tmps.getD 46 undef) :: (a.tmps.getD 47 undef) :: (a.tmps.getD 48 undef) :: (a.tmps.getD 49 undef) :: (a.tmps.getD 50 undef) :: (a.tmps.getD 51 undef) :: (a.tmps.getD 52 undef) :: (a.tmps.getD 53 undef) :: (a.tmps.getD 54 undef) :: (a.tmps.getD 55 undef) :: (a.tmps.getD 56 undef) :: (a.tmps.getD 57 undef) :: (a.tmps.getD 58 undef) :: (a.tmps.getD 59 undef) :: (a.tmps.getD 60 undef) :: (a.tmps.getD 61 undef) :: (a.tmps.getD 62 undef) :: (a.tmps.getD 63 undef) :: (a.tmps.getD 64 undef) :: (a.tmps.getD 65 undef) :: (a.tmps.getD 66 undef) :: (a.tmps.getD 67 undef) :: (a.tmps.getD 68 undef) :: (a.tmps.getD 69 undef) :: (a.tmps.getD 70 undef) :: (a.tmps.getD 71 undef) :: (a.tmps.getD 72 undef) :: (a.tmps.getD 73 undef) :: (a.tmps.getD 74 undef) :: (a.tmps.getD 75 undef) :: (a.tmps.getD 76 undef) :: (a.tmps.getD 77 undef) :: (a.tmps.getD 78 undef) :: (a.tmps.getD 79 undef) :: (a.tmps.getD 80 undef) :: (a.tmps.getD 81 undef) :: (a.tmps.getD 82 undef) :: (a.tmps.getD 83 undef) :: (a.tmps.getD 84 undef) :: (a.tmps.getD 85 undef) :: (a.tmps.getD 86 undef) :: (a.tmps.getD 87 undef) :: (a.tmps.getD 88 undef) :: (a.tmps.getD 89 undef) :: (a.tmps.getD 90 undef) :: (a.tmps.getD 91 undef) :: (a.tmps.getD 92 undef) :: (a.tmps.getD 93 undef) :: (a.tmps.getD 94 undef) :: (a.tmps.getD 95 undef) :: (a.tmps.getD 96 undef) :: (a.tmps.getD 97 undef) :: (a.tmps.getD 98 undef) :: (a.tmps.getD 99 undef) :: (a.tmps.getD 100 undef) :: (a.tmps.getD 101 undef) :: (a.tmps.getD 102 undef) :: (a.tmps.getD 103 undef) :: (a.tmps.getD 104 undef) :: (a.tmps.getD 105 undef) :: (a.tmps.getD 106 undef) :: (a.tmps.getD 107 undef) :: (a.tmps.getD 108 undef) :: (a.tmps.getD 109 undef) :: (a.tmps.getD 110 undef) :: (a.tmps.getD 111 undef) :: (a.tmps.getD 112 undef) :: (a.tmps.getD 113 undef) :: (a.tmps.getD 114 undef) :: (a.tmps.getD 115 undef) :: (a.tmps.getD 116 undef) :: (a.tmps.getD 117 undef) :: (a.tmps.getD 118 undef) :: (a.tmps.getD 119 undef) :: (a.tmps.getD 120 undef) :: (a.tmps.getD 121 undef) :: (a.tmps.getD 122 undef) :: (a.tmps.getD 123 undef) :: (a.tmps.getD 124 undef) :: (a.tmps.getD 125 undef) :: (a.tmps.getD 126 undef) :: (a.tmps.getD 127 undef) :: (a.tmps.getD 128 undef) :: (a.tmps.getD 129 undef) :: (a.tmps.getD 130 undef) :: (a.tmps.getD 131 undef) :: (a.tmps.getD 132 undef) :: (a.tmps.getD 133 undef) :: (a.tmps.getD 134 undef) :: (a.tmps.getD 135 undef) :: (a.tmps.getD 136 undef) :: (a.tmps.getD 137 undef) :: (a.tmps.getD 138 undef) :: (a.tmps.getD 139 undef) :: (a.tmps.getD 140 undef) :: (a.tmps.getD 141 undef) :: (a.tmps.getD 142 undef) :: (a.tmps.getD 143 undef) :: (a.tmps.getD 144 undef) :: (a.tmps.getD 145 undef) :: (a.tmps.getD 146 undef) :: (a.tmps.getD 147 undef) :: (a.tmps.getD 148 undef) :: (a.tmps.getD 149 undef) :: (a.tmps.getD 150 undef) :: (a.tmps.getD 151 undef) :: (a.tmps.getD 152 undef) :: (a.tmps.getD 153 undef) :: (a.tmps.getD 154 undef) :: (a.tmps.getD 155 undef) :: (a.tmps.getD 156 undef) :: (a.tmps.getD 157 undef) :: (a.tmps.getD 158 undef) :: (a.tmps.getD 159 undef) :: (a.tmps.getD 160 undef) :: (a.tmps.getD 161 undef) :: (a.tmps.getD 162 undef) :: (a.tmps.getD 163 undef) :: (a.tmps.getD 164 undef) :: (a.tmps.getD 165 undef) :: (a.tmps.getD 166 undef) :: (a.tmps.getD 167 undef) :: (a.tmps.getD 168 undef) :: (a.tmps.getD 169 undef) :: (a.tmps.getD 170 undef) :: (a.tmps.getD 171 undef) :: (a.tmps.getD 172 undef) :: (undef) :: (undef) :: (undef) :: (undef) :: (undef) :: (undef) :: (undef) :: (undef) :: (undef) :: (undef) :: (undef) :: (undef) :: (undef) :: (undef) :: (undef) :: (undef) :: (undef) :: (undef) :: (undef) :: (undef) :: (undef) :: (undef) :: (undef) :: (undef) :: (undef) :: (undef) :: (undef) :: (undef) :: (undef) :: (undef) :: (undef) :: (undef) :: (undef) :: (undef) :: (undef) :: (undef) :: (undef) :: (undef) :: (undef) :: (undef) :: (undef) :: (undef) :: (undef) :: (undef) :: (undef) :: (undef) :: (undef) :: (undef) :: (undef) :: (undef) :: (undef) :: (undef) :: (undef) :: (undef) :: (undef) :: (undef) :: (undef) :: (undef) :: (undef) :: (undef) :: (undef) :: (undef) :: (undef) :: (undef) :: (undef) :: (undef) :: (undef) :: (undef) :: (undef) :: (undef) :: (undef) :: (undef) :: (undef) :: (undef) :: (undef) :: (undef) :: (undef) :: (undef) :: (undef) :: (undef) :: (undef) :: (undef) :: (undef) :: (undef) :: (undef) :: (undef) :: (undef) :: (undef) :: (undef) :: (undef) :: (undef) :: (undef) :: (undef) :: (undef) :: (undef) :: (undef) :: (undef) :: (undef) :: (undef) :: (undef) :: (undef) :: (undef) :: (undef) :: (undef) :: (undef) :: (undef) :: (undef) :: (undef) :: (undef) :: (undef) :: (undef) :: (undef) :: (undef) :: (undef) :: (undef) :: (undef) :: (undef) :: (undef) :: (undef) :: (undef) :: (undef) :: (undef) :: (undef) :: (undef) :: (undef) :: (undef) :: (undef) :: (undef) :: (undef) :: (undef) :: (undef) :: (undef) :: (undef) :: (undef) :: (undef) :: (undef) :: (undef) :: (undef) :: (undef) :: (undef) :: (undef) :: (undef) :: (undef) :: (undef) :: []), []⟩) : RulesDone w rules slots ra rc sa sc ba dr pa of_ br lo dl a w' :=
  ⟨i, crv, rs, fun n => a.tmps.getD n undef, h1, h2, h3, h3', h4, h5, h5', h6⟩

set_option maxHeartbeats 40000000 in
set_option maxRecDepth 100000 in
theorem make_rules (w : World) (rules : List (LineD × Value)) (slots : List Int) (ra : Option Addr) (rc : Nat) (sa : Option Addr) (sc : Nat) (ba dr pa of_ : Int) (br : Bool) (lo : Int) (dl : List Value) (W4 : World) (H : Hid (DraftR w rules (.slice ra rules.length rc) slots (.slice sa slots.length sc))) (HDL : Hid (dl = draftL (.slice ra rules.length rc) (.slice sa slots.length sc) ba dr pa of_ br lo)) (hba : U8 ba) (hdr : U8 dr) (hpa : U8 pa) (hof : U8 of_) (hlo : U8 lo)
    (HM : Hid (MkS w W4 dl (.slice none 0 0) (.slice none 0 0) [])) (K : Act → World → Prop) (P0 : Ending → World → Prop) (hexit : ∀ a w', RulesDone w rules slots ra rc sa sc ba dr pa of_ br lo dl a w' → K a w') :
    Code.wp Try.prog (Code.loop makeLoop) (Exit.inBlock 0 (Exit.then K (bodyPost Try.prog Try.f12 P0))) ⟨List.toArray ((.agg #[.slice ra rules.length rc, .slice sa slots.length sc, .int .u8 ba, .int .u8 dr, .int .u8 pa, .int .u8 of_, .bool br, .int .u8 lo]) :: (.pointer (some ⟨w.heap.size, 0, none⟩)) :: (.pointer (some ⟨w.heap.size + 1, 0, none⟩)) :: (.pointer (some ⟨w.heap.size + 1 + 1 + 1, 0, none⟩)) :: (.int .i64 0) :: (undef) :: (undef) :: (undef) :: (undef) :: (undef) :: (undef) :: (undef) :: (undef) :: (undef) :: (undef) :: (undef) :: (undef) :: (undef) :: (.agg #[.int .i64 (-100), .int .i64 300]) :: (.agg #[.int .i64 0, .int .i64 250]) :: (.agg #[.int .i64 (-2147483648), .int .i64 2147483647]) :: (.slice (some ⟨w.heap.size + 1 + 1, 0, none⟩) 3 3) :: (.agg #[.slice (some ⟨w.heap.size + 1 + 1, 0, none⟩) 3 3, .slice none 0 0, .slice none 0 0, .int .i64 0, .int .i64 0, .int .i64 0, .int .i64 0, .int .i64 0, .int .i64 0, .bool false, .int .i64 0]) :: (undef) :: (undef) :: (undef) :: (undef) :: (undef) :: (undef) :: (undef) :: (undef) :: (undef) :: (undef) :: (undef) :: (undef) :: (undef) :: (undef) :: (undef) :: (undef) :: (undef) :: (undef) :: (undef) :: (undef) :: (undef) :: (undef) :: (undef) :: (undef) :: (undef) :: (undef) :: (undef) :: (undef) :: (undef) :: (undef) :: (undef) :: (undef) :: (undef) :: (undef) :: (undef) :: (undef) :: (undef) :: (undef) :: (undef) :: (undef) :: (undef) :: (undef) :: (undef) :: (undef) :: (undef) :: (undef) :: (undef) :: (undef) :: (undef) :: (undef) :: (undef) :: (undef) :: (undef) :: (undef) :: (undef) :: (undef) :: (undef) :: (undef) :: (undef) :: (undef) :: (undef) :: (undef) :: (undef) :: (undef) :: (undef) :: (undef) :: (undef) :: (undef) :: (undef) :: (undef) :: (undef) :: (undef) :: (undef) :: (undef) :: (undef) :: (undef) :: (undef) :: (undef) :: (undef) :: (undef) :: (undef) :: (undef) :: (undef) :: (undef) :: (undef) :: (undef) :: (undef) :: (undef) :: (undef) :: (undef) :: (undef) :: (undef) :: (undef) :: (undef) :: (undef) :: (undef) :: (undef) :: (undef) :: (undef) :: (undef) :: (undef) :: (undef) :: (undef) :: (undef) :: (undef) :: (undef) :: (undef) :: (undef) :: (undef) :: (undef) :: (undef) :: (undef) :: (undef) :: (undef) :: (undef) :: (undef) :: (undef) :: (undef) :: (undef) :: (undef) :: (undef) :: (undef) :: (undef) :: (undef) :: (undef) :: (undef) :: (undef) :: (undef) :: (undef) :: (undef) :: (undef) :: (undef) :: (undef) :: (undef) :: (undef) :: (undef) :: (undef) :: (undef) :: (undef) :: (undef) :: (undef) :: (undef) :: (undef) :: (undef) :: (undef) :: (undef) :: (undef) :: (undef) :: (undef) :: (undef) :: (undef) :: (undef) :: (undef) :: (undef) :: (undef) :: (undef) :: (undef) :: (undef) :: (undef) :: (undef) :: (undef) :: (undef) :: (undef) :: (undef) :: (undef) :: (undef) :: (undef) :: (undef) :: (undef) :: (undef) :: (undef) :: (undef) :: (undef) :: (undef) :: (undef) :: (undef) :: (undef) :: (undef) :: (undef) :: (undef) :: (undef) :: (undef) :: (undef) :: (undef) :: (undef) :: (undef) :: (undef) :: (undef) :: (undef) :: (undef) :: (undef) :: (undef) :: (undef) :: (undef) :: (undef) :: (undef) :: (undef) :: (undef) :: (undef) :: (undef) :: (undef) :: (undef) :: (undef) :: (undef) :: (undef) :: (undef) :: (undef) :: (undef) :: (undef) :: (undef) :: (undef) :: (undef) :: (undef) :: (undef) :: (undef) :: (undef) :: (undef) :: (undef) :: (undef) :: (undef) :: (undef) :: (undef) :: (undef) :: (undef) :: (undef) :: (undef) :: (undef) :: (undef) :: (undef) :: (undef) :: (undef) :: (undef) :: (undef) :: (undef) :: (undef) :: (undef) :: (undef) :: (undef) :: (undef) :: (undef) :: (undef) :: (undef) :: (undef) :: (undef) :: (undef) :: (undef) :: (undef) :: (undef) :: (undef) :: (undef) :: (undef) :: (undef) :: (undef) :: (undef) :: (undef) :: (undef) :: (undef) :: (undef) :: (undef) :: (undef) :: (undef) :: (undef) :: (undef) :: (undef) :: (undef) :: (undef) :: (undef) :: (undef) :: (undef) :: (undef) :: (undef) :: (undef) :: (undef) :: (undef) :: (undef) :: (undef) :: (undef) :: (undef) :: (undef) :: (undef) :: (undef) :: (undef) :: (undef) :: (undef) :: (undef) :: (undef) :: (undef) :: (undef) :: (undef) :: (undef) :: (undef) :: (undef) :: (undef) :: (undef) :: []), []⟩ W4 := by
  conv => arg 2; arg 1; whnf
  go_loopw [4] (fun v4 wr => ∃ (i : Nat) (crv : Value) (rs : List (Rul × Value)), i ≤ 8 ∧ v4 = .int .i64 i ∧ rs.length = i ∧ i ≤ rules.length + 1 ∧ Hid (MkS w wr dl crv (.slice none 0 0) rs) ∧ Hid (LikeL rules rs)) (fun v4 _ => 8 - (intOf v4).toNat)
  case atStart => exact ⟨0, _, [], by omega, rfl, rfl, by omega, HM, hid (LikeL.nil _)⟩
  case round =>
    obtain ⟨i, crv, rs, hi8, rfl, hrl, hir, HK, HLIKE⟩ := hrel
    clear HM
    have HRL := hid hrl
    clear hrl
    have d0 : wr.cell? ⟨w.heap.size, 0, none⟩ = some (.slice ra rules.length rc) := HK.out.d.cell (by rw [HDL.out]; rfl)
    have hlr : (rules.length : Int) ≤ 9223372036854775807 := by
      have := H.out.rul.2.1
      unfold maxLen at this
      omega
    by_cases hc : (i < rules.length ∧ i < 8) ∨ i = 0
    · have hsz := HK.out.old.size
      have hdlt := HK.out.d.lt
      have hcase : (i < rules.length ∧ i < 8) ∨ (i = 0 ∧ rules.length = 0) := by omega
      have HCASE := hid hcase
      have HI7 := hid (show i < 8 by omega)
      have HIL := hid (show i ≤ rules.length by omega)
      have hne : ¬ w.heap.size = wr.heap.size := by omega
      clear hc hcase
      go_upto_region 3 with fail
      go_cut [35] (fun v wx => v = .bool true ∧ Hid (Keeps No wr wx))
      case first =>
        rcases HCASE.out with ⟨hlt, h8⟩ | ⟨hi0, hl0⟩
        · have d1 : decide (i < rules.length) = true := by simpa using hlt
          have d2 : decide (i < 8) = true := by simpa using h8
          go_wp2_with fail
          go_meet
          exact ⟨rfl, hid (Keeps.refl _ _)⟩
        · have d1 : decide (i < rules.length) = false := decide_eq_false (by omega)
          have d3 : ((i : Int) == 0) = true := by rw [hi0]; rfl
          clear hi0 hl0
          go_wp2_with fail
          go_meet
          exact ⟨rfl, hid (Keeps.refl _ _)⟩
      case rest =>
        obtain ⟨rfl, KX0⟩ := hcut
        have HK0 := hid (HK.out.keep KX0.out (fun _ h => h.elim))
        have d00 : wc.cell? ⟨w.heap.size, 0, none⟩ = some (.slice ra rules.length rc) := HK0.out.d.cell (by rw [HDL.out]; rfl)
        have hdlt0 := HK0.out.d.lt
        have hne0 : ¬ w.heap.size = wc.heap.size := by omega
        have KX1 := KX0
        clear d0 hne KX0 hdlt
        obtain ⟨w0, hw0⟩ : ∃ w0, w0 = wc := ⟨_, rfl⟩
        subst hw0
        go_upto_if 42 with fail
        go_cut [] (fun wx => ∃ x : LineD × Value, OkLine x.1 ∧ Hid (BlkL wx w0.heap.size 71 (encLine x)) ∧ Hid (SlB wx x.2 x.1.stages) ∧ Hid (Keeps No w0 wx) ∧ Hid (lineAt rules i = x.1))
        case first =>
          rcases HCASE.out with ⟨hlt, h8⟩ | ⟨hi0, hl0⟩
          · obtain ⟨x, hx⟩ : ∃ x, rules[i] = x := ⟨_, rfl⟩
            have HX := hid hx
            have hcx : ∀ k u, (encLine x)[k]? = some u → ∃ g off, ra = some ⟨g, off, none⟩ ∧ w0.cell? ⟨g, off + (i * 9 + k), none⟩ = some u := by
              intro k u hu
              have hk9 : k < 9 := (List.getElem?_eq_some_iff.1 hu).1
              obtain ⟨g, off, he, hg, hc0⟩ := Sl.cellAt H.out.rul (j := i * 9 + k) (u := u) (by rw [getElem?_flatMap_enc (size := 9) (enc := encLine) (fun _ => rfl) _ i k hk9 hlt, hx]; exact hu)
              exact ⟨g, off, he, HK0.out.old.cell (fun h => h) hc0⟩
            obtain ⟨g, off, rfl, c0⟩ := hcx 0 _ rfl
            have hcy : ∀ k u, (encLine x)[k]? = some u → w0.cell? ⟨g, off + i * 9 + k, none⟩ = some u := by
              intro k u hu
              obtain ⟨g', off', he, hc⟩ := hcx k u hu
              simp only [Option.some.injEq, Addr.mk.injEq, and_true] at he
              obtain ⟨rfl, rfl⟩ := he
              rw [Nat.add_assoc]; exact hc
            have c0 := hcy 0 _ rfl
            have c1 := hcy 1 _ rfl
            have c2 := hcy 2 _ rfl
            have c3 := hcy 3 _ rfl
            have c4 := hcy 4 _ rfl
            have c5 := hcy 5 _ rfl
            have c6 := hcy 6 _ rfl
            have c7 := hcy 7 _ rfl
            have c8 := hcy 8 _ rfl
            obtain ⟨sxa, sxc, hxs⟩ := (H.out.stg x (by rw [← hx]; exact List.getElem_mem hlt)).any
            rw [hxs] at c8
            simp only [Nat.add_zero] at c0
            have HXS := hid hxs
            have hgl : g < w0.heap.size := World.block_lt_of_cell? w0 _ c0
            have hgx : ¬ g = w0.heap.size := by omega
            have d1 : decide (i < rules.length) = true := by simpa using hlt
            have HLT := hid hlt
            clear hx hcx hcy hxs
            go_wp2_with fail
            go_meet
            have hmem : x ∈ rules := by rw [← HX.out]; exact List.getElem_mem hlt
            refine ⟨x, H.out.ok x hmem, hid ?_, hid (Sl.keep (H.out.stg x hmem) (HK0.out.old.trans ((Keeps.refl _ _).alloc _)) (fun _ _ h => h)), hid ?_, hid ?_⟩
            · unfold encLine
              rw [HXS.out]
              exact heap_alloc_new w0 _
            · exact (Keeps.refl _ _).alloc _
            · unfold lineAt
              rw [List.getD_eq_getElem?_getD, List.getElem?_eq_getElem HLT.out, HX.out]; rfl
          · have d1 : ¬ i < rules.length := by omega
            have HL0 := hid hl0
            clear hi0 hl0
            go_wp2_with fail
            go_meet
            refine ⟨zeroLine, okZero, hid ?_, hid (Sl.nil _ _), hid ?_, hid ?_⟩
            · exact heap_alloc_new w0 _
            · exact (Keeps.refl _ _).alloc _
            · have := HL0.out
              have : rules = [] := List.length_eq_zero_iff.1 this
              rw [this]; rfl
        case rest =>
          obtain ⟨⟨xl, xv⟩, hok, BX, SX, KX, HLA⟩ := hcut
          obtain ⟨wl, hwl⟩ : ∃ wl, wl = wc := ⟨_, rfl⟩
          subst hwl
          obtain ⟨sxa, sxc, hxs⟩ := SX.out.any
          simp only at hxs hok
          subst hxs
          have HK1 := hid (HK0.out.keep KX.out (fun _ h => h.elim))
          clear HK0
          obtain ⟨y0, y1, y2, y3, y4, y5, y6, y7, y8⟩ := cells9 BX.out
          obtain ⟨⟨k0, k1⟩, ⟨s0, s1⟩, ⟨l0, l1⟩, ⟨e0, e1⟩, ⟨t0, t1⟩, ⟨p0, p1⟩, ⟨r0, r1⟩, hst⟩ := hok
          have HST := hid hst
          clear hst
          obtain ⟨W6, hW6⟩ : ∃ W6, wl.alloc (.cells #[.int .u8 (xl.kind % 6 + 1), .int .i64 (xl.sig % 3), .int .i64 0, .int .i64 0, .int .i64 (xl.delay % 8), .int .i64 0, .int .u8 (xl.pri % 3 + 1), .bool xl.latch, .slice none 0 0] 68) = W6 := ⟨_, rfl⟩
          have k6 : Keeps No wl W6 := by rw [← hW6]; exact (Keeps.refl _ _).alloc _
          have b6 : BlkL W6 wl.heap.size 68 [.int .u8 (xl.kind % 6 + 1), .int .i64 (xl.sig % 3), .int .i64 0, .int .i64 0, .int .i64 (xl.delay % 8), .int .i64 0, .int .u8 (xl.pri % 3 + 1), .bool xl.latch, .slice none 0 0] := by rw [← hW6]; exact heap_alloc_new wl _
          have bx6 := BX.out.keep k6 (fun h => h)
          have HW6 := hid hW6
          have BX6 := hid bx6
          have K6 := hid k6
          have B6 := hid b6
          have hlx : w0.heap.size < wl.heap.size := BX.out.lt
          have hxr : ¬ w0.heap.size = wl.heap.size := by omega
          clear hW6 k6 b6 bx6 KX
          go_upto_region 9 with fail
          rw [HW6.out]
          obtain ⟨kk, hkk⟩ : ∃ kk, xl.kind % 6 = kk := ⟨_, rfl⟩
          have hk0 : 0 ≤ kk ∧ kk ≤ 5 := by omega
          obtain ⟨hk0, hk5⟩ := hk0
          rw [hkk] at B6 ⊢
          have HKK := hid hkk
          clear hkk
          obtain ⟨y0, y1, y2, y3, y4, y5, y6, y7, y8⟩ := cells9 BX6.out
          obtain ⟨z0, z1, z2, z3, z4, z5, z6, z7, z8⟩ := cells9 B6.out
          obtain ⟨g0, g1, g2, g3, g4, g5, g6, g7, g8⟩ := frees9 B6.out
          clear HW6
          go_upto_block 2 with fail
          go_cut [] (fun wx => ∃ (l b sp : Int), NumOk (kk + 1) (xl.sig % 3) l b (xl.delay % 8) sp (xl.pri % 3 + 1) ∧ Hid (BlkL wx wl.heap.size 68 (encRul (⟨kk + 1, xl.sig % 3, l, b, xl.delay % 8, sp, xl.pri % 3 + 1, xl.latch, []⟩, .slice none 0 0))) ∧ Hid (Keeps (fun b => b = wl.heap.size) W6 wx) ∧ Hid ((l, b, sp) = numsD (kk + 1) xl.limit xl.back xl.span))
          case first =>
            rcases (show kk = 0 ∨ kk = 1 ∨ kk = 2 ∨ kk = 3 ∨ kk = 4 ∨ kk = 5 by omega) with rfl | rfl | rfl | rfl | rfl | rfl
            · go_wp2_with fail
              go_meet
              exact ⟨xl.limit, xl.limit - xl.back % 20, 0, ⟨by omega, by omega, by omega, by omega, by omega, by omega, by omega, by omega, by omega, by omega, by omega, by omega⟩, hid ((B6.out.set 2 _).set 3 _), hid ((Keeps.refl _ _).at.at), hid (by unfold numsD; simp)⟩
            · go_wp2_with fail
              go_meet
              exact ⟨xl.limit, xl.limit + xl.back % 20, 0, ⟨by omega, by omega, by omega, by omega, by omega, by omega, by omega, by omega, by omega, by omega, by omega, by omega⟩, hid ((B6.out.set 2 _).set 3 _), hid ((Keeps.refl _ _).at.at), hid (by unfold numsD; simp)⟩
            · have hm0 := Int.emod_nonneg xl.back (b := 1 + xl.limit % 60 + 1) (by omega)
              have hm1 := Int.emod_lt_of_pos xl.back (b := 1 + xl.limit % 60 + 1) (by omega)
              have HM0 := hid hm0
              have HM1 := hid hm1
              clear hm0 hm1
              go_wp2_with fail
              go_meet
              have hm0 := HM0.out
              have hm1 := HM1.out
              exact ⟨1 + xl.limit % 60, xl.back % (1 + xl.limit % 60 + 1), 1 + xl.span % 12, ⟨by omega, by omega, by omega, by omega, by omega, by omega, by omega, by omega, by omega, by omega, by omega, by omega⟩, hid (((B6.out.set 2 _).set 3 _).set 5 _), hid ((Keeps.refl _ _).at.at.at), hid (by unfold numsD; simp)⟩
            · have hm0 := Int.emod_nonneg xl.back (b := 1 + xl.limit % 60 + 1) (by omega)
              have hm1 := Int.emod_lt_of_pos xl.back (b := 1 + xl.limit % 60 + 1) (by omega)
              have HM0 := hid hm0
              have HM1 := hid hm1
              clear hm0 hm1
              go_wp2_with fail
              go_meet
              have hm0 := HM0.out
              have hm1 := HM1.out
              exact ⟨1 + xl.limit % 60, xl.back % (1 + xl.limit % 60 + 1), 1 + xl.span % 12, ⟨by omega, by omega, by omega, by omega, by omega, by omega, by omega, by omega, by omega, by omega, by omega, by omega⟩, hid (((B6.out.set 2 _).set 3 _).set 5 _), hid ((Keeps.refl _ _).at.at.at), hid (by unfold numsD; simp)⟩
            · go_wp2_with fail
              go_meet
              exact ⟨0, 0, 1 + xl.span % 12, ⟨by omega, by omega, by omega, by omega, by omega, by omega, by omega, by omega, by omega, by omega, by omega, by omega⟩, hid (B6.out.set 5 _), hid ((Keeps.refl _ _).at), hid (by unfold numsD; simp)⟩
            · go_wp2_with fail
              go_meet
              exact ⟨0, 0, 0, ⟨by omega, by omega, by omega, by omega, by omega, by omega, by omega, by omega, by omega, by omega, by omega, by omega⟩, B6, hid (Keeps.refl _ _), hid (by unfold numsD; simp)⟩
          case rest =>
            obtain ⟨l, b, sp, hnum, BR, KR, HNUMS⟩ := hcut
            obtain ⟨r, hr⟩ : ∃ r : Rul, (⟨kk + 1, xl.sig % 3, l, b, xl.delay % 8, sp, xl.pri % 3 + 1, xl.latch, []⟩ : Rul) = r := ⟨_, rfl⟩
            have hnr : NumOk r.kind r.sig r.limit r.back r.delay r.span r.pri := by rw [← hr]; exact hnum
            have hre : r.stages = [] := by rw [← hr]
            have HLK : Hid (∀ st : List Stg, (xl.stages = [] → st = []) → RulLike xl { r with stages := st }) := hid (fun st hst => by
              rw [← hr]
              exact ⟨by show kk + 1 = _; rw [HKK.out], rfl, by show (l, b, sp) = _; rw [HKK.out]; exact HNUMS.out, rfl, rfl, rfl, hst⟩)
            rw [hr] at BR
            obtain ⟨wm, hwm⟩ : ∃ wm, wm = wc := ⟨_, rfl⟩
            subst hwm
            have HNR := hid hnr
            have HRE := hid hre
            obtain ⟨hp1, hp3⟩ := hnr.pri
            have KM := hid ((K6.out.mono (fun _ _ h => h.elim)).trans KR.out)
            have hwlm : wl.heap.size < wm.heap.size := BR.out.lt
            have hlw := BX.out.lt
            have BXM := hid (BX.out.keep KM.out hxr)
            have HS0 : Hid (StgS wm wm wl.heap.size r (.slice none 0 0) []) := hid ⟨BR.out, World.ownsRow_nil _ _ _ _, fun b hb => by simp [Value.ownBlock] at hb, Keeps.refl _ _⟩
            obtain ⟨i0, hi, hz0, hz1, hz2⟩ := info_parts info_stgA
            have HI := hid hi
            obtain ⟨wo, hwo⟩ : ∃ x, x = wr := ⟨_, rfl⟩
            subst hwo
            clear hr hnum hnr hre hi B6 BX6 K6 k0 k1 s0 s1 l0 l1 e0 e1 t0 t1 p0 p1 r0 r1 y0 y1 y2 y3 y4 y5 y6 y7 y8 z0 z1 z2 z3 z4 z5 z6 z7 z8 g0 g1 g2 g3 g4 g5 g6 g7 g8 KR
            obtain ⟨z0, z1, z2, z3, z4, z5, z6, z7, z8⟩ := cells9 BR.out
            clear z0 z1 z2 z3 z4 z5 z7 z8
            go_upto_block 3 with fail
            clear z6
            go_cut [] (fun wx => ∃ (sv : Value) (st : List Stg), Hid (StgS wm wx wl.heap.size r sv st) ∧ Hid (StOk r.pri st) ∧ Hid (st.length ≤ 4) ∧ Hid (xl.stages = [] → st = []))
            case first =>
              go_wp2_with fail
              go_loopw [7, 8] (fun v7 v8 wy => ∃ (k : Nat) (sv : Value) (st : List Stg) (p : Int), k ≤ 4 ∧ v8 = .int .i64 k ∧ Hid (st.length = k) ∧ v7 = .int .u8 p ∧ 1 ≤ p ∧ p ≤ 3 ∧ Hid (lastPri r.pri st = p) ∧ Hid (StgS wm wy wl.heap.size r sv st) ∧ Hid (StOk r.pri st) ∧ Hid (k ≤ xl.stages.length)) (fun _ v8 _ => 4 - (intOf v8).toNat)
              case atStart => exact ⟨0, _, [], r.pri, by omega, rfl, hid rfl, rfl, hp1, hp3, hid rfl, HS0, hid trivial, hid (Nat.zero_le _)⟩
              case round =>
                obtain ⟨wy, hwy⟩ : ∃ x, x = wr := ⟨_, rfl⟩
                subst hwy
                obtain ⟨k, sv, st, p, hk4, rfl, HLN, rfl, hq1, hq3, HLP, HS, HOK, HKL⟩ := hrel
                have hkw := KM.out.trans HS.out.old
                have hsl : Sl wy 1 (.slice sxa xl.stages.length sxc) xl.stages.length (xl.stages.map (.int .u8)) := Sl.keep' SX.out hkw (fun _ b _ hlt e => by omega)
                have HSL := hid hsl
                have hbx := BX.out.keep hkw hxr
                have BXY := hid hbx
                have b8 : wy.cell? ⟨w0.heap.size, 8, none⟩ = some (.slice sxa xl.stages.length sxc) := hbx.cell rfl
                have hly : (xl.stages.length : Int) ≤ 9223372036854775807 := by
                  have := hsl.2.1
                  unfold maxLen at this
                  omega
                clear hkw hsl hbx
                by_cases hc : k < xl.stages.length ∧ k < 4
                · obtain ⟨hlt, h4⟩ := hc
                  obtain ⟨ga, offa, rfl, hgl, hca⟩ := SlB.cellAt HSL.out hlt
                  obtain ⟨sk, hsk⟩ : ∃ s, xl.stages[k] = s := ⟨_, rfl⟩
                  rw [hsk] at hca
                  have HKLT := hid (show k + 1 ≤ xl.stages.length by omega)
                  have hs01 := HST.out sk (by rw [← hsk]; exact List.getElem_mem hlt)
                  obtain ⟨hs0, hs1⟩ := hs01
                  clear hsk
                  go_upto_if 150 with fail
                  go_cut [7] (fun v7 wz => ∃ p', v7 = .int .u8 p' ∧ p ≤ p' ∧ p' ≤ 3 ∧ Hid (wy = wz))
                  case first =>
                    by_cases hgt : 3 < p + sk % 2
                    · go_wp2_with fail
                      go_meet
                      exact ⟨3, rfl, hq3, by omega, hid rfl⟩
                    · go_wp2_with fail
                      go_meet
                      exact ⟨p + sk % 2, rfl, by omega, by omega, hid rfl⟩
                  case rest =>
                    obtain ⟨p', rfl, hpp, hp'3, HWE⟩ := hcut
                    have hwe := HWE.out
                    subst hwe
                    clear HWE
                    obtain ⟨sva, svc, rfl⟩ := own_any HS.out.own
                    have z8 : wy.cell? ⟨wl.heap.size, 8, none⟩ = some (.slice sva st.length svc) := HS.out.blk.cell rfl
                    have f8 := HS.out.blk.free 8
                    have hst4 : st.length ≤ 4 := by rw [HLN.out]; omega
                    have HW1 : Hid (1 ≤ IntKind.i64.wrap (1 + IntKind.i64.wrap ((IntKind.u8.wrap (sk.tdiv 2)).tmod 12))) := hid (by rw [wait_of hs0 hs1]; omega)
                    have HW12 : Hid (IntKind.i64.wrap (1 + IntKind.i64.wrap ((IntKind.u8.wrap (sk.tdiv 2)).tmod 12)) ≤ 12) := hid (by rw [wait_of hs0 hs1]; omega)
                    have hwy := HS.out.blk.lt
                    have hny : ¬ wl.heap.size = wy.heap.size := by omega
                    have hny2 : ¬ w0.heap.size = wy.heap.size := by omega
                    have hny3 : ¬ ga = wy.heap.size := by omega
                    go_upto_region 30 with fail
                    go_region_law (refine step_append rfl (.tmp 152) (.tmp 164) 66 rfl 75 i0 (.agg #[.int .i64 0, .int .u8 0]) 2 16 Try.underlying66 HI.out hz0 hz1 hz2 rfl (by decide) (.slice sva st.length svc) (.slice (some ⟨wy.heap.size, 0, none⟩) 1 1) st.length 1 (st.flatMap encStg) _ (by rfl) (by rfl) (Keeps.own (S := No) (by repeat' (first | with_reducible exact Keeps.refl _ _ | with_reducible refine Keeps.drewN ?_ _ | with_reducible refine Keeps.drew ?_ | with_reducible refine Keeps.alloc ?_ _ | with_reducible refine Keeps.setCell ?_ ?_ _ | exact Or.inr rfl)) HS.out.own (fun _ _ h => h)) (Sl.newAt (by simp) _ _ _ _ rfl (by decide)) (by intro u hu; simp at hu; rcases hu with rfl | rfl <;> rfl) (by unfold maxLen; omega) (by omega) ?_; intro v2 w2 ho2 hk2 hb2; obtain ⟨a2, c2, rfl⟩ := own_any ho2; have hm2 := HS.out.mid hwlm (S := No) (by repeat' (first | with_reducible exact Keeps.refl _ _ | with_reducible refine Keeps.drewN ?_ _ | with_reducible refine Keeps.drew ?_ | with_reducible refine Keeps.alloc ?_ _ | with_reducible refine Keeps.setCell ?_ ?_ _ | exact Or.inr rfl)) (fun _ h => h.elim) hk2; have u8 : w2.cell? ⟨wl.heap.size, 8, none⟩ = some (.slice sva st.length svc) := hm2.cell rfl; have d8 := hm2.free 8; have HO2 := hid ho2; have HK2 := hid hk2; have HB2 := hid hb2; clear ho2 hk2 hb2 hm2)
                    all_goals
                      go_wp2_with fail
                      go_roundw
                      case rel => exact ⟨k + 1, .slice a2 (st.length + 1) c2, st ++ [⟨IntKind.i64.wrap (1 + IntKind.i64.wrap ((IntKind.u8.wrap (sk.tdiv 2)).tmod 12)), p'⟩], p', by omega, by go_num, hid (by rw [List.length_append, HLN.out]; rfl), rfl, by omega, by omega, hid (lastPri_snoc _ _ _), hid (HS.out.step (s := ⟨IntKind.i64.wrap (1 + IntKind.i64.wrap ((IntKind.u8.wrap (sk.tdiv 2)).tmod 12)), p'⟩) hwlm (S := No) (by repeat' (first | with_reducible exact Keeps.refl _ _ | with_reducible refine Keeps.drewN ?_ _ | with_reducible refine Keeps.drew ?_ | with_reducible refine Keeps.alloc ?_ _ | with_reducible refine Keeps.setCell ?_ ?_ _ | exact Or.inr rfl)) (fun _ h => h.elim) HO2.out HK2.out HB2.out), hid (HOK.out.snoc HW1.out HW12.out (by rw [HLP.out]; exact hpp) hp'3), HKLT⟩
                      case measure => simp [intOf]; omega
                · have hst4 : st.length ≤ 4 := by rw [HLN.out]; omega
                  have HSL4 := hid hst4
                  by_cases hlt : k < xl.stages.length
                  · have h4 : ¬ k < 4 := by omega
                    clear hc hst4
                    go_wp2_with fail
                    go_meet
                    exact ⟨sv, st, HS, HOK, HSL4, hid (fun he => List.length_eq_zero_iff.1 (by have h1 := HKL.out; rw [he] at h1; have h2 := HLN.out; simp at h1; omega))⟩
                  · clear hc hst4
                    go_wp2_with fail
                    go_meet
                    exact ⟨sv, st, HS, HOK, HSL4, hid (fun he => List.length_eq_zero_iff.1 (by have h1 := HKL.out; rw [he] at h1; have h2 := HLN.out; simp at h1; omega))⟩
            case rest =>
              obtain ⟨wx, hwx⟩ : ∃ x, x = wc := ⟨_, rfl⟩
              subst hwx
              obtain ⟨sv, st, HS, HOK, HFEW, HNONE⟩ := hcut
              obtain ⟨sva, svc, rfl⟩ := own_any HS.out.own
              obtain ⟨cra, crc, rfl⟩ := own_any HK1.out.own
              have KX2 := hid (KM.out.trans HS.out.old)
              have HKX := HK1.out.keepB KX2.out (fun b hb (e : b = wl.heap.size) => by omega)
              have cc1 := HKX.c.cell (o := 1) (v := .slice cra rs.length crc) rfl
              have HOWN := hid (HKX.own)
              have hcl := HKX.c.lt
              obtain ⟨z0, z1, z2, z3, z4, z5, z6, z7, z8⟩ := cells9 HS.out.blk
              obtain ⟨i1, hi1, hy0, hy1, hy2⟩ := info_parts info_rulA
              have HI1 := hid hi1
              have hrs9 : rs.length ≤ 8 := by rw [HRL.out]; omega
              have hcx : ¬ w.heap.size + 1 + 1 + 1 = wx.heap.size := by omega
              have hrx : ¬ wl.heap.size = wx.heap.size := by have := HS.out.blk.lt; omega
              clear HKX hi1
              go_wp2_with (at_builtin; refine stuck ?_)
              unfold Stuck
              refine wpl_append rfl _ _ 30 rfl 68 i1 (.agg #[.int .u8 0, .int .i64 0, .int .i64 0, .int .i64 0, .int .i64 0, .int .i64 0, .int .u8 0, .bool false, .slice none 0 0]) 9 80 Try.underlying30 HI1.out hy0 hy1 hy2 rfl (by decide) (.slice cra rs.length crc) (.slice (some ⟨wx.heap.size, 0, none⟩) 1 1) rs.length 1 (rs.flatMap encRul) (encRul (r, .slice sva st.length svc)) rfl rfl (HOWN.out.alloc _) (Sl.new _ (encRul (r, .slice sva st.length svc)).toArray _ 9 1 rfl (by decide)) (by intro u hu; simp [encRul] at hu; rcases hu with rfl | rfl | rfl | rfl | rfl | rfl | rfl | rfl | rfl <;> rfl) (by unfold maxLen; omega) (by omega) ?_
              intro v2 w2 ho2 hk2 hb2
              obtain ⟨a2, c2, rfl⟩ := own_any ho2
              have hm2 := HK1.out.mid (KX2.out.alloc _) (fun b hb (e : b = wl.heap.size) => by omega) hk2
              have u8 := hm2.cell (o := 1) (v := .slice cra rs.length crc) rfl
              have d8 := hm2.free 1
              have HO2 := hid ho2
              have HK2 := hid hk2
              have HB2 := hid hb2
              clear ho2 hk2 hb2 hm2 z0 z1 z2 z3 z4 z5 z6 z7 z8 cc1
              go_wp2_with fail
              go_roundw
              case rel =>
                have hi7 := HI7.out
                have hil := HIL.out
                refine ⟨i + 1, .slice a2 (rs.length + 1) c2, rs ++ [({ r with stages := st }, .slice sva st.length svc)], by omega, by go_num, by rw [List.length_append, HRL.out]; rfl, by omega, hid ?_, hid (HLIKE.out.snoc HRL.out (by have h7 := HCASE.out; omega) (by rw [HLA.out]; exact HLK.out st HNONE.out))⟩
                have hw := HS.out.own
                have hal := (Keeps.refl No wx).alloc (.cells (encRul (r, .slice sva st.length svc)).toArray 68)
                have hown : (wx.alloc (.cells (encRul (r, .slice sva st.length svc)).toArray 68)).ownsRow 0 75 2 (.slice sva st.length svc) st.length (st.flatMap encStg) := hw.alloc _
                exact HK1.out.step (x := ({ r with stages := st }, .slice sva st.length svc)) (KX2.out.alloc _) (fun b hb (e : b = wl.heap.size) => by omega) HO2.out HK2.out HB2.out (Sl.ofOwn hown) (fun b hb => ⟨by have := HS.out.new b hb; omega, (hown.lt b hb).2⟩) ⟨HNR.out, HFEW.out, HOK.out⟩
              case measure =>
                have hi7 := HI7.out
                simp [intOf]
                omega
    · have hi1 : 1 ≤ i := by omega
      have hil : i ≤ rules.length + 1 := by omega
      have HNC := hid hc
      clear hc
      go_upto_region 3 with fail
      go_cut [35] (fun v wx => v = .bool false ∧ Hid (wr = wx))
      case first =>
        have hnc := HNC.out
        have d3 : ((i : Int) == 0) = false := by simp; omega
        by_cases hlt : i < rules.length
        · have d1 : decide (i < rules.length) = true := by simpa using hlt
          have d2 : ¬ (i : Int) < 8 := by omega
          clear hnc hi1 hil
          go_wp2_with fail
          go_meet
          exact ⟨rfl, hid rfl⟩
        · have d1 : decide (i < rules.length) = false := decide_eq_false hlt
          clear hnc hi1 hil
          go_wp2_with fail
          go_meet
          exact ⟨rfl, hid rfl⟩
      case rest =>
        obtain ⟨rfl, HWE⟩ := hcut
        have e := HWE.out
        subst e
        clear HWE
        go_wp2_with fail
        exact RulesDone.of _ _ _ _ _ _ _ _ _ _ _ _ _ _ _ _ i _ _ hi8 hi1 hir HNC HRL HK HLIKE rfl

end Go.Proofs.Ytoodlhagecannaa
