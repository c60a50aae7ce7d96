/-
  The statement VmoApart answers true at all bytes and all numbers.
-/
import Derived.Test.YtdhbhigoboamfaaVApart
namespace Go.Proofs.Ytdhbhigoboamfaa
open Go.ChangeShapes Go.WideShapes Go.ChangeAt Go.RowKit

abbrev wrCells (pa pb pc : Option Addr) (la ca lb cb lc cc : Nat) (at0 : Int) : Array Value := #[.slice pa la ca, .slice pb lb cb, .slice pc lc cc, .int .i64 at0]

set_option maxRecDepth 20000 in
set_option maxHeartbeats 4000000 in
theorem apart8_past (pa pb pc : Option Addr) (la ca lb cb lc cc : Nat) (at0 : Int) (w : World) (h : 256 < la ∨ 100 < lb ∨ 100 < lc ∨ at0 < 0 ∨ 150 < at0) :
    Calls Try.prog 3 #[.agg (wrCells pa pb pc la ca lb cb lc cc at0)] w fun e w' => e = .returned (.bool true) ∧ Turn NoBlock w w' := by
  have c1 : ∀ m, Calls Try.prog 14 #[.int .i64 64, .int .i64 8] ((w.alloc (.cells (wrCells pa pb pc la ca lb cb lc cc at0) 24)).drewN m) _ := fun m => vnew_yes 64 8 _ (by omega) (by omega)
  have HT0 := Lib.hid (fun m => show Turn NoBlock w ((w.alloc (.cells (wrCells pa pb pc la ca lb cb lc cc at0) 24)).drewN m) from ((Turn.refl NoBlock w).alloc _).drewN m)
  have hcs : (256 : Int) < la ∨ ((la : Int) ≤ 256 ∧ (100 : Int) < lb) ∨ ((la : Int) ≤ 256 ∧ (lb : Int) ≤ 100 ∧ (100 : Int) < lc) ∨ ((la : Int) ≤ 256 ∧ (lb : Int) ≤ 100 ∧ (lc : Int) ≤ 100 ∧ at0 < 0) ∨ ((la : Int) ≤ 256 ∧ (lb : Int) ≤ 100 ∧ (lc : Int) ≤ 100 ∧ 0 ≤ at0 ∧ 150 < at0) := by omega
  clear h
  rcases hcs with h1 | ⟨h1, h2⟩ | ⟨h1, h2, h3⟩ | ⟨h1, h2, h3, h4⟩ | ⟨h1, h2, h3, h4, h5⟩
  all_goals
    go_enter Try.func3, Try.ntmps3
    go_wp2_with fail
    go_quiet (fail)
    go_wp2_with (first
      | (go_at_call 14; (with_reducible refine (c1 _).mono ?_); rintro x w1 ⟨s, r, rfl, m1, t1, f1⟩; have K1 := Lib.hid ((HT0.out _).trans t1 (fun _ h => .inl h)); clear m1 t1 f1)
      | (go_at_call 15; (with_reducible refine (awake8 _).mono ?_); rintro x w2 ⟨rfl, t2⟩; have K2 := Lib.hid (K1.out.trans t2 (fun _ h => .inl h)); clear t2))
    go_ret
    exact ⟨rfl, K2.out⟩

section
variable {w : World} {s : Nat} {r : Rep} {M : Mod} {C1 C2 : Nat → UInt8} {o1 o2 : Ob} {m : Nat}
theorem a3_readA (h : SMem w s r M) (z : Ap3 M C1 C2 o1 o2 m) : Calls Try.prog 18 #[.pointer (some ⟨s, 0, none⟩), .int .i64 1, .int .i64 0, .int .i64 256] w fun e w' => ∃ u, e = .returned (.tuple #[u, .int .i64 0]) ∧ Src w' u (cut C1 0 256) ∧ Turn NoBlock w w' := a3_read1 h z 0 256 (by omega)
theorem a3_readB (h : SMem w s r M) (z : Ap3 M C1 C2 o1 o2 m) (n : Nat) (hn : n ≤ 100) : Calls Try.prog 18 #[.pointer (some ⟨s, 0, none⟩), .int .i64 1, .int .i64 67, .int .i64 (n : Int)] w fun e w' => ∃ u, e = .returned (.tuple #[u, .int .i64 0]) ∧ Src w' u (cut C1 67 n) ∧ Turn NoBlock w w' := a3_read1 h z 67 n (by omega)
end
theorem win_64 (g c : Nat) (hN : 256 ≤ c) : ∀ w, Sem.run Try.prog (Instr.slice 22 (.slice (some ⟨g, 0, none⟩) 256 c) (some (.int .i64 64)) none none) w = .ok (.slice (some ⟨g, 64, none⟩) 192 (c - 64)) w := win_from8 g 64 256 c (by omega) hN
theorem src_64 {w : World} {g c : Nat} {bs : List UInt8} (h : Byts (.slice (some ⟨g, 0, none⟩) 256 c) bs w) (hl : bs.length = 256) (c' : Nat) : Src w (.slice (some ⟨g, 64, none⟩) 192 c') (bs.drop 64) := src_from h hl (by omega) c'

set_option maxRecDepth 20000 in
set_option maxHeartbeats 8000000 in
theorem apart8_walk (pa pb pc : Option Addr) (la ca lb cb lc cc o : Nat) (x1 x2 x3 : List UInt8) (w : World) (hla : x1.length = la) (hlb : x2.length = lb) (hlc : x3.length = lc) (ha : la ≤ 256) (hb : lb ≤ 100) (hc : lc ≤ 100) (ho : o ≤ 150)
    (hva : ArgB w (.slice pa la ca) x1) (hvb : ArgB w (.slice pb lb cb) x2) (hvc : ArgB w (.slice pc lc cc) x3) :
    Calls Try.prog 3 #[.agg (wrCells pa pb pc la ca lb cb lc cc o)] w fun e w' => e = .returned (.bool true) ∧ Turn NoBlock w w' := by
  have c1 : ∀ m, Calls Try.prog 14 #[.int .i64 64, .int .i64 8] ((w.alloc (.cells (wrCells pa pb pc la ca lb cb lc cc o) 24)).drewN m) _ := fun m => vnew_yes 64 8 _ (by omega) (by omega)
  have HT0 := Lib.hid (fun m => show Turn NoBlock w ((w.alloc (.cells (wrCells pa pb pc la ca lb cb lc cc o) 24)).drewN m) from ((Turn.refl NoBlock w).alloc _).drewN m)
  have haI : (la : Int) ≤ 256 := by omega
  have hbI : (lb : Int) ≤ 100 := by omega
  have hcI : (lc : Int) ≤ 100 := by omega
  have hoI : (o : Int) ≤ 150 := by omega
  have HA1 := Lib.hid (fun (w' : World) s r M (k : VSt w w' s r M) => hva.srcF k)
  have HA2 := Lib.hid (fun (w' : World) s r M (k : VSt w w' s r M) => hvb.srcF k)
  have HA3 := Lib.hid (fun (w' : World) s r M (k : VSt w w' s r M) => hvc.srcF k)
  have HS2 := Lib.hid (fun (w' : World) (t : Turn NoBlock w w') => hvb.src t)
  have HS3 := Lib.hid (fun (w' : World) (t : Turn NoBlock w w') => hvc.src t)
  have HL := Lib.hid (show x1.length ≤ 256 ∧ x2.length ≤ 100 ∧ x3.length ≤ 100 ∧ o ≤ 150 ∧ x2.length = lb ∧ x3.length = lc by omega)
  have HE2 := Lib.hid (fun C => cut_lay C o 256 x2 (by omega))
  have HE3 := Lib.hid (fun C => cut_lay C o 256 x3 (by omega))
  have HE4 := Lib.hid (fun C => show cut (lay C o x2) 64 192 = (putB (cut C 0 256) o x2).drop 64 from by rw [← cut_lay C o 256 x2 (by omega), cut_drop _ _ _ (by omega)])
  have HE5 := Lib.hid (fun C => show cut (lay C 67 x3) 67 lc = x3 from by have := cut_same C 67 x3; rwa [hlc] at this)
  have HPL2 := Lib.hid (fun C => show (putB (cut C 0 256) o x2).length = 256 from by rw [putB_len (by rw [cut_len]; omega), cut_len])
  have hon : o < 256 := by omega
  have HI2 := Lib.hid (fun (w' : World) (g c : Nat) (bs : List UInt8) (hc : 256 ≤ c) (hl : bs.length = 256) (t : Turn NoBlock w w') (hown : Byts (.slice (some ⟨g, 0, none⟩) 256 c) bs w') =>
    And.intro (win_from8 g o 256 c hon hc) (copy_in8 w' g o (256 - o) lb cb (c - o) 256 c (some ⟨g, o, none⟩) pb bs x2 (fun _ => rfl) (by omega) (by omega) hl hlb (hvb.src t) hown))
  have HI3 := Lib.hid (fun (w' : World) (g c : Nat) (bs : List UInt8) (hc : 256 ≤ c) (hl : bs.length = 256) (t : Turn NoBlock w w') (hown : Byts (.slice (some ⟨g, 0, none⟩) 256 c) bs w') =>
    And.intro (win_from8 g o 256 c hon hc) (copy_in8 w' g o (256 - o) lc cc (c - o) 256 c (some ⟨g, o, none⟩) pc bs x3 (fun _ => rfl) (by omega) (by omega) hl hlc (hvc.src t) hown))
  clear hva hvb hvc hla hlb hlc ha hb hc ho hon
  go_enter Try.func3, Try.ntmps3
  go_wp2_with fail
  go_quiet (fail)
  go_wp2_with (first
    | (go_at_call 14; (with_reducible refine (c1 _).mono ?_); rintro x w1 ⟨s, r, rfl, m1, t1, f1⟩; have K1 := Lib.hid (show VSt w w1 s r (M0 64 8) from ⟨m1, (HT0.out _).trans t1 (fun _ h => .inl h), fun k hk => Nat.le_trans (HT0.out _).size (f1 k hk)⟩); clear m1 t1 f1)
    | (go_at_call 16; (with_reducible refine (za_create K1.out.mem).mono ?_); rintro x w2 ⟨rfl, r2, m2, k2⟩; have K2 := Lib.hid (K1.out.next m2 k2); clear m2 k2)
    | (go_at_call 17; (with_reducible refine (za_write K2.out.mem _ x1 (HA1.out _ _ _ _ K2.out) HL.out.1).mono ?_); rintro x w3 ⟨rfl, r3, M3, o3, ⟨m3, z3⟩, k3⟩; have K3 := Lib.hid (K2.out.next m3 k3); have Z3 := Lib.hid z3; clear m3 z3 k3)
    | (go_at_call 18; (with_reducible refine (a1_read K3.out.mem Z3.out).mono ?_); rintro x w4 ⟨g4, c4, rfl, b4, f4, t4⟩; have K4 := Lib.hid (K3.out.past t4); have B4 := Lib.hid b4; clear b4 f4 t4)
    | (go_at_call 19; (with_reducible refine (a1_snap K4.out.mem Z3.out).mono ?_); rintro x w5 ⟨rfl, r5, M5, p5, q5, ⟨m5, z5⟩, k5⟩; have K5 := Lib.hid (K4.out.next m5 k5); have B5 := Lib.hid (B4.out.next k5); have Z5 := Lib.hid z5; clear m5 z5 k5)
    | (go_at_call 20; (with_reducible refine (a2_slice K5.out.mem Z5.out).mono ?_); rintro x w6 ⟨rfl, r6, M6, p6, q6, ⟨m6, z6⟩, k6⟩; have K6 := Lib.hid (K5.out.next m6 k6); have B6 := Lib.hid (B5.out.next k6); have Z6 := Lib.hid z6; clear m6 z6 k6)
    | (go_at_call 17; (with_reducible refine (a3_write1 K6.out.mem Z6.out (by omega) o _ x2 (HA2.out _ _ _ _ K6.out) HL.out.2.1 HL.out.2.2.2.1).mono ?_); rintro x w7 ⟨rfl, r7, M7, p7, ⟨m7, z7⟩, k7⟩; have K7 := Lib.hid (K6.out.next m7 k7); have B7 := Lib.hid (B6.out.next k7); have Z7 := Lib.hid z7; clear m7 z7 k7)
    | (go_at_call 18; (with_reducible refine (a3_read2 K7.out.mem Z7.out).mono ?_); rintro x w8 ⟨u8, rfl, s8, t8⟩; have K8 := Lib.hid (K7.out.past t8); have B8 := Lib.hid (B7.out.past t8); have S8 := Lib.hid s8; clear s8 t8)
    | (go_at_call 21; (with_reducible refine (same_any _ _ _ _ S8.out B8.out.src).mono ?_); rintro x w8' ⟨rfl, rfl⟩)
    | (go_at_call 17; (with_reducible refine (a3_write2 K8.out.mem Z7.out (by omega) o _ x3 (HA3.out _ _ _ _ K8.out) HL.out.2.2.1 HL.out.2.2.2.1).mono ?_); rintro x w9 ⟨rfl, r9, M9, p9, ⟨m9, z9⟩, k9⟩; have K9 := Lib.hid (K8.out.next m9 k9); have B9 := Lib.hid (B8.out.next k9); have Z9 := Lib.hid z9; clear m9 z9 k9)
    | (go_at_call 22; (with_reducible refine (copy7_any _ g4 c4 256 _ B9.out.len (by omega) (by omega) B9.out.byts).mono ?_); rintro x w10 ⟨g10, c10, rfl, b10, f10, t10⟩; have K10 := Lib.hid (K9.out.past t10); have D10 := Lib.hid (show Mine w10 s r9 g10 256 c10 _ from ⟨b10, fun hk => by have := K9.out.mem.lt hk; omega, B9.out.len⟩); have B10 := Lib.hid (B9.out.past t10); have N10 := Lib.hid (show g4 ≠ g10 from by have := byts_lt B9.out.byts; omega); have F10 := Lib.hid (show w.heap.size ≤ g10 from Nat.le_trans K9.out.turn.size f10); obtain ⟨hsl10, W10, hcp10, hB10, hTW10⟩ := HI2.out _ g10 c10 _ (byts_cap b10 B9.out.len) B9.out.len K10.out.turn b10; have K11 := Lib.hid (K10.out.beside hTW10 F10.out D10.out.apart); have B11 := Lib.hid (B10.out.beside hTW10 N10.out); have D11 := Lib.hid (show Mine W10 s r9 g10 256 c10 _ from ⟨hB10, D10.out.apart, HPL2.out _⟩); have C10 := Lib.hid (byts_cap b10 B9.out.len); have hsw := win_64 g10 c10 C10.out; clear b10 f10 t10 hB10 hTW10)
    | (go_at_call 18; (with_reducible refine (a3_readA K11.out.mem Z9.out).mono ?_); rintro x w12 ⟨u12, rfl, s12, t12⟩; have K12 := Lib.hid (K11.out.past t12); have B12 := Lib.hid (B11.out.past t12); have D12 := Lib.hid (D11.out.past t12); have S12 := Lib.hid s12; clear s12 t12)
    | (go_at_call 18; (with_reducible refine (a3_read3 K12.out.mem Z9.out).mono ?_); rintro x w13 ⟨u13, rfl, s13, t13⟩; have K13 := Lib.hid (K12.out.past t13); have B13 := Lib.hid (B12.out.past t13); have D13 := Lib.hid (D12.out.past t13); have S13 := Lib.hid (S12.out.past t13); have R13 := Lib.hid s13; clear s13 t13)
    | (go_at_call 21; (with_reducible refine (same_any _ _ _ _ (HE2.out _ ▸ S13.out) D13.out.src).mono ?_); rintro x w13' ⟨rfl, rfl⟩)
    | (go_at_call 21; (with_reducible refine (same_any _ _ _ _ (HE4.out _ ▸ R13.out) (src_64 D13.out.byts D13.out.len _)).mono ?_); rintro x w13' ⟨rfl, rfl⟩)
    | (go_at_call 22; (with_reducible refine (copy7_any _ g4 c4 256 _ B13.out.len (by omega) (by omega) B13.out.byts).mono ?_); rintro x w14 ⟨g14, c14, rfl, b14, f14, t14⟩; have K14 := Lib.hid (K13.out.past t14); have A14 := Lib.hid (show ¬ SFoot s r9 g14 from fun hk => by have := K13.out.mem.lt hk; omega); have F14 := Lib.hid (show w.heap.size ≤ g14 from Nat.le_trans K13.out.turn.size f14); obtain ⟨hsl14, W14, hcp14, hB14, hTW14⟩ := HI3.out _ g14 c14 _ (byts_cap b14 B13.out.len) B13.out.len K14.out.turn b14; have K15 := Lib.hid (K14.out.beside hTW14 F14.out A14.out); have D15 := Lib.hid hB14; clear b14 f14 t14 hB14 hTW14)
    | (go_at_call 18; (with_reducible refine (a3_read2 K15.out.mem Z9.out).mono ?_); rintro x w16 ⟨u16, rfl, s16, t16⟩; have K16 := Lib.hid (K15.out.past t16); have D16 := Lib.hid (D15.out.src.past t16); have S16 := Lib.hid s16; clear s16 t16)
    | (go_at_call 21; (with_reducible refine (same_any _ _ _ _ (HE3.out _ ▸ S16.out) D16.out).mono ?_); rintro x w16' ⟨rfl, rfl⟩)
    | (go_at_call 17; (with_reducible refine (a3_write3 K16.out.mem Z9.out (by omega) _ x3 (HA3.out _ _ _ _ K16.out) HL.out.2.2.1).mono ?_); rintro x w17 ⟨rfl, r17, M17, p17, ⟨m17, z17⟩, k17⟩; have K17 := Lib.hid (K16.out.next m17 k17); have Z17 := Lib.hid z17; clear m17 z17 k17)
    | (go_at_call 18; (with_reducible refine (a3_readB K17.out.mem Z17.out lc (by have := HL.out; omega)).mono ?_); rintro x w18 ⟨u18, rfl, s18, t18⟩; have K18 := Lib.hid (K17.out.past t18); have S18 := Lib.hid s18; clear s18 t18)
    | (go_at_call 21; (with_reducible refine (same_any _ _ _ _ (HE5.out _ ▸ S18.out) (HS3.out _ K18.out.turn)).mono ?_); rintro x w18' ⟨rfl, rfl⟩)
    | (go_at_call 15; (with_reducible refine (awake8 _).mono ?_); rintro x w19 ⟨rfl, t19⟩; have K19 := Lib.hid (K18.out.turn.trans t19 (fun _ h => .inl h)); clear t19))
  go_ret
  exact ⟨rfl, K19.out⟩

theorem fieldsW : fieldsOf (Try.prog.underlying 24) = [(22, 0), (22, 1), (22, 2), (3, 3)] := by kernel_rfl
theorem cellsW : Try.prog.cellsOf 24 = 4 := by kernel_rfl
section
variable {H : Type} {enc : TypeId × Value → H} {W : World}
set_option maxRecDepth 100000 in
theorem written_read {r : Reach} {b0 : Nat} {v : Value} {d : DataW H} {p : List MemPlace} (hv : Value.okWide Try.prog W r b0 24 v) (h : DataW.Trod enc Try.prog W 0 (fun _ => true) true 24 v d p) :
    ∃ pa la ca pb lb cb pc lc cc x xa xb xc, v = .agg #[.slice pa la ca, .slice pb lb cb, .slice pc lc cc, .int .i64 x] ∧ List.length xa = la ∧ ArgB W (.slice pa la ca) xa ∧ List.length xb = lb ∧ ArgB W (.slice pb lb cb) xb ∧ List.length xc = lc ∧ ArgB W (.slice pc lc cc) xc ∧ fit x := by
  obtain ⟨fs, hs⟩ := struct_of fieldsW (List.cons_ne_nil _ _)
  obtain ⟨cs, rfl, hsz⟩ := okWide_struct hs hv
  rw [cellsW] at hsz
  obtain ⟨fuel, hf⟩ := h
  obtain ⟨l⟩ := cs
  simp only [Value.cells] at hf
  match l, hsz with
  | [c0, c1, c2, c3], _ =>
    obtain ⟨_, n, hp⟩ := parts_read fieldsW (by simp) hf
    obtain ⟨y0, h0⟩ := hp 0 22 0 rfl
    obtain ⟨y1, h1⟩ := hp 1 22 1 rfl
    obtain ⟨y2, h2⟩ := hp 2 22 2 rfl
    obtain ⟨y3, h3⟩ := hp 3 3 3 rfl
    rw [cells31] at h0 h1 h2
    rw [cells3] at h3
    obtain ⟨pa, la, ca, xa, e0, a1, a2, a3⟩ := arg_read h0
    obtain ⟨pb, lb, cb, xb, e1, b1, b2, b3⟩ := arg_read h1
    obtain ⟨pc, lc, cc, xc, e2, d1, d2, d3⟩ := arg_read h2
    obtain ⟨z3, rfl, f3⟩ := int_read int3 h3
    simp at e0 e1 e2
    subst e0; subst e1; subst e2
    exact ⟨pa, la, ca, pb, lb, cb, pc, lc, cc, z3, xa, xb, xc, rfl, a1, a3, b1, b3, d1, d3, f3⟩
end
end Go.Proofs.Ytdhbhigoboamfaa
