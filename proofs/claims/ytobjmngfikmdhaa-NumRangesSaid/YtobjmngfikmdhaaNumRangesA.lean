/-
  The statement NumRanges: what the third region of its law does (the document's answer to 'within').
-/
import Derived.Test.YtobjmngfikmdhaaNumBelow3
import Derived.WalkKit
import Derived.ProofKit
import Derived.Outline
import Derived.LoopN
import Derived.WalkSmall
import Derived.Deep.QuietTactic
import Derived.BigQuiet
import Derived.Deep.RegionHeld3
import Derived.Deep.DeepCutAuto
namespace Go.Proofs.Ytobjmngfikmdhaa
open Go.ChangeShapes Go.WideShapes Go.ChangeAt Go.RowKit
theorem drew_size (w : World) : w.drew.heap.size = w.heap.size := rfl
theorem there_of {w : World} {b : Nat} {cs : Array Value} (h : ∀ o, w.cell? ⟨b, o, none⟩ = cs[o]?) (hs : cs.size = 13) : There w b := fun i hi => ⟨cs[i]'(by omega), (h i).trans (Array.getElem?_eq_getElem (by omega))⟩
theorem new_at {w1 w2 : World} {cs : Array Value} {t : TypeId} (hb : Below (w1.alloc (.cells cs t)).heap.size (w1.alloc (.cells cs t)) w2) : (∀ o, w2.cell? ⟨w1.heap.size, o, none⟩ = cs[o]?) ∧ (∀ o, w2.frozen? ⟨w1.heap.size, o, none⟩ = false) := new_cells hb
theorem new_at' {w1 w2 : World} {cs : Array Value} {t : TypeId} (hb : Below (w1.alloc (.cells cs t)).drew.heap.size (w1.alloc (.cells cs t)).drew w2) : (∀ o, w2.cell? ⟨w1.heap.size, o, none⟩ = cs[o]?) ∧ (∀ o, w2.frozen? ⟨w1.heap.size, o, none⟩ = false) := new_cells' hb
theorem min_law (a b c d : Int) : ∃ m : Int, (∀ (ts : Array TypeId) (t : TypeId) (w : World), (Builtin.min_ ts t #[.int .i64 a, .int .i64 b, .int .i64 c, .int .i64 d]).run Try.prog w = .ok (.int .i64 m) w) ∧ (0 ≤ m ↔ 0 ≤ a ∧ 0 ≤ b ∧ 0 ≤ c ∧ 0 ≤ d) := by
  refine ⟨_, fun ts t w => by simp [Builtin.min_, Builtin.min2]; rfl, ?_⟩
  split <;> (try split) <;> (try split) <;> omega
/-- A region of a function's code. -/
def findR (n : Nat) : Code → Option Code
  | .region k ops dr => if k = n then some (.region k ops dr) else none
  | .seq x y => match findR n x with
    | some z => some z
    | none => findR n y
  | .loop x => findR n x
  | .block _ x => findR n x
  | .cond _ x y => match findR n x with
    | some z => some z
    | none => findR n y
  | _ => none
noncomputable def regC (n : Nat) : Code := (Try.f6.body.bind (findR n)).getD .skip
set_option linter.unusedVariables false
set_option maxRecDepth 100000 in
set_option maxHeartbeats 60000000 in
theorem reg3 (a b c d : Int) (wv qr : Bool) (r : Nat → Int) (K : Act → World → Prop) (post : Ending → World → Prop) (g p p2 : Nat) (W2 : World)
    (x12 x13 x14 x15 x16 x17 x18 x19 x20 x21 x22 x23 x24 x25 x26 x27 x28 x29 x30 x31 x32 x33 x34 x35 x36 x37 x38 x39 x40 x41 x42 x43 x44 x45 x46 x47 x48 x49 x50 x51 x52 x53 x54 x55 x56 x57 x58 x59 x60 x61 x62 x63 x64 x65 x66 x67 x68 x69 x70 x71 x72 x73 x74 x75 x76 x77 x78 x79 x80 x81 x82 x83 x84 x85 x86 x87 x88 x89 x90 x91 x92 x93 x94 x95 x96 x97 x98 x99 x100 x101 x102 x103 x104 x105 x106 x107 x108 x109 x110 x111 x112 x113 x114 x115 x116 x117 x118 x119 x120 x121 x122 x123 x124 x125 x126 x127 x128 x129 x130 x131 x132 x133 x134 x135 x136 x137 x138 x139 x140 x141 x142 x143 x144 x145 x146 x147 x148 x149 x150 x151 x152 x153 x154 x155 x156 x157 x158 x159 x160 x161 x162 x163 x164 x165 x166 x167 x168 x169 x170 x171 x172 x173 x174 : Value)
    (HW : Hid (wv = true ↔ 0 ≤ a ∧ 0 ≤ b ∧ (qr = false ∨ r 0 = 0 ∧ r 1 = 0 ∧ r 2 = 0 ∧ r 3 = 0 ∧ r 4 = 0)))
    (f0 : W2.cell? ⟨g, 0, none⟩ = some (.int .i64 a))
    (f1 : W2.cell? ⟨g, 1, none⟩ = some (.int .i64 b))
    (f2 : W2.cell? ⟨g, 2, none⟩ = some (.int .i64 c))
    (f3 : W2.cell? ⟨g, 3, none⟩ = some (.int .i64 d))
    (d0 : W2.cell? ⟨p2, 0, none⟩ = some (.int .i64 (r 0)))
    (d1 : W2.cell? ⟨p2, 1, none⟩ = some (.int .i64 (r 1)))
    (d2 : W2.cell? ⟨p2, 2, none⟩ = some (.int .i64 (r 2)))
    (d3 : W2.cell? ⟨p2, 3, none⟩ = some (.int .i64 (r 3)))
    (d4 : W2.cell? ⟨p2, 4, none⟩ = some (.int .i64 (r 4)))
    (d5 : W2.cell? ⟨p2, 5, none⟩ = some (.int .i64 0))
    (d6 : W2.cell? ⟨p2, 6, none⟩ = some (.int .i64 0))
    (d7 : W2.cell? ⟨p2, 7, none⟩ = some (.int .i64 0))
    (d8 : W2.cell? ⟨p2, 8, none⟩ = some (.int .i64 0))
    (d9 : W2.cell? ⟨p2, 9, none⟩ = some (.int .i64 0))
    (d10 : W2.cell? ⟨p2, 10, none⟩ = some (.int .i64 0))
    (d11 : W2.cell? ⟨p2, 11, none⟩ = some (.int .i64 0))
    (d12 : W2.cell? ⟨p2, 12, none⟩ = some (.bool qr))
    (HK : Hid (∀ y12 y13 y14 y15 y16 y17 y18 y19 y20 y21 y22 y23 y24 y25 y26 y27 y28 y29 y30 y31 y32 y33 y34 y35 y36 y37 y38 y39 y40 y41 y42 y43 y44 y45 y46 y47 y48 y49 y50 y51 y52 y53 y54 y55 y56 y57 y58 y59 y60 y61 y62 y63 y64 y65 y66 y67 y68 y69 y70 y71 y72 y73 y74 y75 y76 y77 y78 y79 y80 y81 y82 y83 y84 y85 y86 y87 y88 y89 y90 y91 y92 y93 y94 y95 y96 y97 y98 y99 y100 y101 y102 y103 y104 y105 y106 y107 y108 y109 y110 y111 y112 y113 y114 y115 y116 y117 y118 y119 y120 y121 y122 y123 y124 y125 y126 y127 y128 y129 y130 y131 y132 y133 y134 y135 y136 y137 y138 y139 y140 y141 y142 y143 y144 y145 y146 y147 y148 y149 y150 y151 y152 y153 y154 y155 y156 y157 y158 y159 y160 y161 y162 y163 y164 y165 y166 y167 y168 y169 y170 y171 y172 y173 y174 : Value, K ⟨(.agg #[.int .i64 a, .int .i64 b, .int .i64 c, .int .i64 d] :: .pointer (some ⟨g, 0, none⟩) :: .bool false :: .pointer (some ⟨p, 0, none⟩) :: .pointer (some ⟨p2, 0, none⟩) :: .bool wv :: undef :: undef :: undef :: undef :: undef :: undef :: y12 :: y13 :: y14 :: y15 :: y16 :: y17 :: y18 :: y19 :: y20 :: y21 :: y22 :: y23 :: y24 :: y25 :: y26 :: y27 :: y28 :: y29 :: y30 :: y31 :: y32 :: y33 :: y34 :: y35 :: y36 :: y37 :: y38 :: y39 :: y40 :: y41 :: y42 :: y43 :: y44 :: y45 :: y46 :: y47 :: y48 :: y49 :: y50 :: y51 :: y52 :: y53 :: y54 :: y55 :: y56 :: y57 :: y58 :: y59 :: y60 :: y61 :: y62 :: y63 :: y64 :: y65 :: y66 :: y67 :: y68 :: y69 :: y70 :: y71 :: y72 :: y73 :: y74 :: y75 :: y76 :: y77 :: y78 :: y79 :: y80 :: y81 :: y82 :: y83 :: y84 :: y85 :: y86 :: y87 :: y88 :: y89 :: y90 :: y91 :: y92 :: y93 :: y94 :: y95 :: y96 :: y97 :: y98 :: y99 :: y100 :: y101 :: y102 :: y103 :: y104 :: y105 :: y106 :: y107 :: y108 :: y109 :: y110 :: y111 :: y112 :: y113 :: y114 :: y115 :: y116 :: y117 :: y118 :: y119 :: y120 :: y121 :: y122 :: y123 :: y124 :: y125 :: y126 :: y127 :: y128 :: y129 :: y130 :: y131 :: y132 :: y133 :: y134 :: y135 :: y136 :: y137 :: y138 :: y139 :: y140 :: y141 :: y142 :: y143 :: y144 :: y145 :: y146 :: y147 :: y148 :: y149 :: y150 :: y151 :: y152 :: y153 :: y154 :: y155 :: y156 :: y157 :: y158 :: y159 :: y160 :: y161 :: y162 :: y163 :: y164 :: y165 :: y166 :: y167 :: y168 :: y169 :: y170 :: y171 :: y172 :: y173 :: y174 :: [] : List Value).toArray, []⟩ W2)) :
    Code.wp Try.prog (regC 3) (Exit.then K (bodyPost Try.prog Try.f6 post)) ⟨(.agg #[.int .i64 a, .int .i64 b, .int .i64 c, .int .i64 d] :: .pointer (some ⟨g, 0, none⟩) :: .bool false :: .pointer (some ⟨p, 0, none⟩) :: .pointer (some ⟨p2, 0, none⟩) :: undef :: undef :: undef :: undef :: undef :: undef :: undef :: x12 :: x13 :: x14 :: x15 :: x16 :: x17 :: x18 :: x19 :: x20 :: x21 :: x22 :: x23 :: x24 :: x25 :: x26 :: x27 :: x28 :: x29 :: x30 :: x31 :: x32 :: x33 :: x34 :: x35 :: x36 :: x37 :: x38 :: x39 :: x40 :: x41 :: x42 :: x43 :: x44 :: x45 :: x46 :: x47 :: x48 :: x49 :: x50 :: x51 :: x52 :: x53 :: x54 :: x55 :: x56 :: x57 :: x58 :: x59 :: x60 :: x61 :: x62 :: x63 :: x64 :: x65 :: x66 :: x67 :: x68 :: x69 :: x70 :: x71 :: x72 :: x73 :: x74 :: x75 :: x76 :: x77 :: x78 :: x79 :: x80 :: x81 :: x82 :: x83 :: x84 :: x85 :: x86 :: x87 :: x88 :: x89 :: x90 :: x91 :: x92 :: x93 :: x94 :: x95 :: x96 :: x97 :: x98 :: x99 :: x100 :: x101 :: x102 :: x103 :: x104 :: x105 :: x106 :: x107 :: x108 :: x109 :: x110 :: x111 :: x112 :: x113 :: x114 :: x115 :: x116 :: x117 :: x118 :: x119 :: x120 :: x121 :: x122 :: x123 :: x124 :: x125 :: x126 :: x127 :: x128 :: x129 :: x130 :: x131 :: x132 :: x133 :: x134 :: x135 :: x136 :: x137 :: x138 :: x139 :: x140 :: x141 :: x142 :: x143 :: x144 :: x145 :: x146 :: x147 :: x148 :: x149 :: x150 :: x151 :: x152 :: x153 :: x154 :: x155 :: x156 :: x157 :: x158 :: x159 :: x160 :: x161 :: x162 :: x163 :: x164 :: x165 :: x166 :: x167 :: x168 :: x169 :: x170 :: x171 :: x172 :: x173 :: x174 :: [] : List Value).toArray, []⟩ W2 := by
  conv => arg 2; whnf
  have hw := HW.out
  clear HW
  by_cases ha : a < 0
  · have h1 : wv = false := Bool.eq_false_iff.2 (fun h => by have h9 := hw.1 h; clear hw; omega)
    subst h1
    clear hw
    go_wp2_with fail
    exact HK.out _ _ _ _ _ _ _ _ _ _ _ _ _ _ _ _ _ _ _ _ _ _ _ _ _ _ _ _ _ _ _ _ _ _ _ _ _ _ _ _ _ _ _ _ _ _ _ _ _ _ _ _ _ _ _ _ _ _ _ _ _ _ _ _ _ _ _ _ _ _ _ _ _ _ _ _ _ _ _ _ _ _ _ _ _ _ _ _ _ _ _ _ _ _ _ _ _ _ _ _ _ _ _ _ _ _ _ _ _ _ _ _ _ _ _ _ _ _ _ _ _ _ _ _ _ _ _ _ _ _ _ _ _ _ _ _ _ _ _ _ _ _ _ _ _ _ _ _ _ _ _ _ _ _ _ _ _ _ _ _ _ _ _
  · have ha' : 0 ≤ a := by omega
    by_cases hb : b < 0
    · have h1 : wv = false := Bool.eq_false_iff.2 (fun h => by have h9 := hw.1 h; clear hw; omega)
      subst h1
      clear hw
      go_wp2_with fail
      exact HK.out _ _ _ _ _ _ _ _ _ _ _ _ _ _ _ _ _ _ _ _ _ _ _ _ _ _ _ _ _ _ _ _ _ _ _ _ _ _ _ _ _ _ _ _ _ _ _ _ _ _ _ _ _ _ _ _ _ _ _ _ _ _ _ _ _ _ _ _ _ _ _ _ _ _ _ _ _ _ _ _ _ _ _ _ _ _ _ _ _ _ _ _ _ _ _ _ _ _ _ _ _ _ _ _ _ _ _ _ _ _ _ _ _ _ _ _ _ _ _ _ _ _ _ _ _ _ _ _ _ _ _ _ _ _ _ _ _ _ _ _ _ _ _ _ _ _ _ _ _ _ _ _ _ _ _ _ _ _ _ _ _ _ _
    · have hb' : 0 ≤ b := by omega
      cases qr
      · have h1 : wv = true := hw.2 ⟨ha', hb', .inl rfl⟩
        subst h1
        clear hw
        go_wp2_with fail
        exact HK.out _ _ _ _ _ _ _ _ _ _ _ _ _ _ _ _ _ _ _ _ _ _ _ _ _ _ _ _ _ _ _ _ _ _ _ _ _ _ _ _ _ _ _ _ _ _ _ _ _ _ _ _ _ _ _ _ _ _ _ _ _ _ _ _ _ _ _ _ _ _ _ _ _ _ _ _ _ _ _ _ _ _ _ _ _ _ _ _ _ _ _ _ _ _ _ _ _ _ _ _ _ _ _ _ _ _ _ _ _ _ _ _ _ _ _ _ _ _ _ _ _ _ _ _ _ _ _ _ _ _ _ _ _ _ _ _ _ _ _ _ _ _ _ _ _ _ _ _ _ _ _ _ _ _ _ _ _ _ _ _ _ _ _
      · by_cases hz : r 0 = 0 ∧ r 1 = 0 ∧ r 2 = 0 ∧ r 3 = 0 ∧ r 4 = 0
        · have h1 : wv = true := hw.2 ⟨ha', hb', .inr hz⟩
          have hcm := fun w => cmp_zero r w hz
          subst h1
          clear hw hz
          go_wp2_with fail
          exact HK.out _ _ _ _ _ _ _ _ _ _ _ _ _ _ _ _ _ _ _ _ _ _ _ _ _ _ _ _ _ _ _ _ _ _ _ _ _ _ _ _ _ _ _ _ _ _ _ _ _ _ _ _ _ _ _ _ _ _ _ _ _ _ _ _ _ _ _ _ _ _ _ _ _ _ _ _ _ _ _ _ _ _ _ _ _ _ _ _ _ _ _ _ _ _ _ _ _ _ _ _ _ _ _ _ _ _ _ _ _ _ _ _ _ _ _ _ _ _ _ _ _ _ _ _ _ _ _ _ _ _ _ _ _ _ _ _ _ _ _ _ _ _ _ _ _ _ _ _ _ _ _ _ _ _ _ _ _ _ _ _ _ _ _
        · have h1 : wv = false := Bool.eq_false_iff.2 (fun h => (hw.1 h).2.2.elim (fun h9 => nomatch h9) hz)
          have hcm := fun w => cmp_other r w hz
          subst h1
          clear hw hz
          go_wp2_with fail
          exact HK.out _ _ _ _ _ _ _ _ _ _ _ _ _ _ _ _ _ _ _ _ _ _ _ _ _ _ _ _ _ _ _ _ _ _ _ _ _ _ _ _ _ _ _ _ _ _ _ _ _ _ _ _ _ _ _ _ _ _ _ _ _ _ _ _ _ _ _ _ _ _ _ _ _ _ _ _ _ _ _ _ _ _ _ _ _ _ _ _ _ _ _ _ _ _ _ _ _ _ _ _ _ _ _ _ _ _ _ _ _ _ _ _ _ _ _ _ _ _ _ _ _ _ _ _ _ _ _ _ _ _ _ _ _ _ _ _ _ _ _ _ _ _ _ _ _ _ _ _ _ _ _ _ _ _ _ _ _ _ _ _ _ _ _
end Go.Proofs.Ytobjmngfikmdhaa
