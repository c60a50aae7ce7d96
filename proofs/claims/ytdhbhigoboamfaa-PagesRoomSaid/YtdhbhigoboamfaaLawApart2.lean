/-
  The statement PagesApart answers true at bytes that lie within a frame.
-/
import Derived.Test.YtdhbhigoboamfaaLawApart
namespace Go.Proofs.Ytdhbhigoboamfaa
open Go.ChangeShapes Go.WideShapes Go.ChangeAt Go.RowKit

theorem z8_read10 {w : World} {a : Nat} {F : Nat → Prop} {n : Nat} {B C : List UInt8} (h : PoolAt w a F (Z8 (n + 1) B C)) (hC : C.length = 64) :
    Calls Try.prog 39 #[.pointer (some ⟨a, 0, none⟩), .int .i64 1, .int .i64 0, .int .i64 64] w fun e w' => ∃ v, e = .returned (.tuple #[v, .int .i64 0]) ∧ Byts v C w' ∧ (∀ j, Blk v j → w.heap.size ≤ j) ∧ Turn NoBlock w w' := by
  have c := z8_read1 h 0 64 (by omega)
  rw [List.drop_zero, List.take_of_length_le (by omega)] at c
  exact c
/-- What the law holds of bytes that it read: they are as they were behind calls on what is older. -/
structure Rd (w wr : World) (v : Value) (bs : List UInt8) (n : Nat) : Prop where
  byts : Byts v bs wr
  fresh : ∀ j, Blk v j → n ≤ j
theorem Rd.later {w0 w w' : World} {F : Nat → Prop} {v : Value} {bs : List UInt8} {n : Nat} (h : Rd w0 w v bs n) (t : Turn F w w') (hF : ∀ j, F j → j < n) : Rd w0 w' v bs n :=
  ⟨(own_byts v bs).kept _ _ _ h.byts t (fun j hj e => by have := h.fresh j hj; have := hF j e; omega), h.fresh⟩
theorem Rd.past {w0 w w' : World} {v : Value} {bs : List UInt8} {n : Nat} (h : Rd w0 w v bs n) (t : Turn NoBlock w w') : Rd w0 w' v bs n := h.later t (fun _ h => by cases h)

set_option maxRecDepth 20000 in
set_option maxHeartbeats 4000000 in
theorem apart_walk (pa pb : Option Addr) (la ca lb cb o m : Nat) (xa xb : List UInt8) (w : World) (hla : la ≤ 64) (hob : o + lb ≤ 64) (hm : m ≤ 5) (ha : xa.length = la) (hb : xb.length = lb)
    (hva : Src w (.slice pa la ca) xa) (hvb : Src w (.slice pb lb cb) xb) :
    Calls Try.prog 9 #[.agg (shCells pa pb la ca lb cb o m)] w fun e w' => e = .returned (.bool true) ∧ Turn NoBlock w w' := by
  have c1 : ∀ m', Calls Try.prog 30 #[.int .i64 8] ((w.alloc (.cells (shCells pa pb la ca lb cb o m) 76)).drewN m') _ := fun m' => new_yes 8 _ (by omega)
  have HT0 := Lib.hid (fun m' => show Turn NoBlock w ((w.alloc (.cells (shCells pa pb la ca lb cb o m) 76)).drewN m') from ((Turn.refl NoBlock w).alloc _).drewN m')
  obtain ⟨a, haw⟩ : ∃ a, w.heap.size + 1 = a := ⟨_, rfl⟩
  have hsz : ∀ m', ((w.alloc (.cells (shCells pa pb la ca lb cb o m) 76)).drewN m').heap.size = a := fun m' => by show (w.alloc _).heap.size = a; rw [← haw]; simp
  simp only [hsz] at c1
  have Haw := Lib.hid haw
  clear hsz haw
  have hB : (putB blank 0 xa).length = 64 := by rw [putB_len (by rw [ha]; show 0 + la ≤ 64; omega)]; rfl
  have HSa := Lib.hid (fun w' (t : Turn NoBlock w w') => hva.past t)
  have HSb := Lib.hid (fun w' (t : Turn NoBlock w w') => hvb.past t)
  have HW1 := Lib.hid (fun w' F (h : PoolAt w' a F (A8 1 blank)) (hs : Src w' (.slice pa la ca) xa) => a8_write h _ xa hs (by omega))
  generalize putB blank 0 xa = B at *
  have HBx := Lib.hid (show ((putB B o xb).drop o).take lb = xb from by have := put_back (l := B) (bs := xb) (o := o) (by omega); rwa [hb] at this)
  have HW2 := Lib.hid (fun w' F (h : PoolAt w' a F (Z8 (m + 1) B B)) (hs : Src w' (.slice pb lb cb) xb) => z8_write1 h o _ xb hs (by omega))
  have HB := Lib.hid hB
  have Hm := Lib.hid hm
  have Hob := Lib.hid hob
  have hob2 : (lb : Int) ≤ 64 - (o : Int) := by omega
  have hod : (o : Int) ≤ 64 := by omega
  clear hva hvb ha hb hB
  go_enter Try.func9, Try.ntmps9
  go_wp2_with fail
  go_quiet (fail)
  go_wp2_with (first
    | (go_at_call 30; (with_reducible refine (c1 _).mono ?_); rintro x w1 ⟨rfl, F1, h1, t1, l1⟩; have K1 := Lib.hid (show OSt w w1 a F1 (List.replicate 8 Pg.none) from ⟨h1, (HT0.out _).trans t1 (fun _ h => .inl h), fun j hj => by have := l1 j hj; have := Haw.out; omega⟩); clear h1 t1 l1)
    | (go_at_call 32; (with_reducible refine (a8_alloc K1.out.pool).mono ?_); rintro x w2 ⟨rfl, F2, h2, t2, l2⟩; have K2 := Lib.hid (K1.out.step h2 t2 l2); clear h2 t2 l2)
    | (go_at_call 41; (with_reducible refine (HW1.out _ _ K2.out.pool (HSa.out _ K2.out.turn)).mono ?_); rintro x w3 ⟨rfl, h3, t3⟩; have K3 := Lib.hid (K2.out.same h3 t3); clear h3 t3))
  go_loopg [79] (m + 1) (fun g s wr => ∃ (i : Nat), g = m + 1 - i ∧ i ≤ m + 1 ∧ s = .int .i64 i ∧ Hid (OSt w wr a F2 (A8 (i + 1) B)))
  case atStart => exact ⟨0, by omega, by omega, rfl, K3⟩
  case round =>
    obtain ⟨i, hg, hi, rfl, HA⟩ := hrel
    by_cases hlt : i < m + 1
    · have c2 := a8_share HA.out.pool (by have := Hm.out; omega)
      go_wp2_with (go_at_call 35; (with_reducible refine c2.mono ?_); rintro x w4 ⟨rfl, h4, t4⟩; have K4 := Lib.hid (HA.out.same h4 t4); clear h4 t4)
      go_roundg (m + 1 - (i + 1))
      case measure => omega
      case rel => exact ⟨i + 1, rfl, by omega, by go_num, K4⟩
    · obtain rfl : i = m + 1 := by omega
      have c2 := a8_own HA.out.pool (by have := Hm.out; omega)
      clear hg hlt c1
      have HPF := Lib.hid (fun (w : World) (L : List Pg) (F : Nat → Prop) (h : PoolAt w a F L) j (hj : F j) => h.lt hj)
      go_wp2_with (first
        | (go_at_call 37; (with_reducible refine c2.mono ?_); rintro x w4 ⟨rfl, F4, h4, t4, l4⟩; have K4 := Lib.hid (HA.out.step h4 t4 l4); clear h4 t4 l4 c2)
        | (go_at_call 43; (with_reducible refine (z8_users K4.out.pool).mono ?_); rintro x w4' ⟨rfl, rfl⟩)
        | (go_at_call 43; (with_reducible refine (z8_users1 K4.out.pool).mono ?_); rintro x w4' ⟨rfl, rfl⟩)
        | (go_at_call 44; (with_reducible refine (z8_used K4.out.pool).mono ?_); rintro x w5 ⟨rfl, d5, rfl⟩; have K5 := Lib.hid (K4.out.past ((Turn.refl NoBlock _).drewN d5)))
        | (go_at_call 39; (with_reducible refine (z8_read1 K8.out.pool o lb Hob.out).mono ?_); rintro x w10 ⟨v4, rfl, b4, -, t4⟩; have K10 := Lib.hid (K9.out.past t4); have R4 := Lib.hid (And.intro ((R3.out.1.past t4).byts.src) (And.intro ((R3.out.2.past t4).byts.src) (HBx.out ▸ b4.src))); clear b4 t4)
        | (go_at_call 39; (with_reducible refine (z8_read1 K9.out.pool o lb Hob.out).mono ?_); rintro x w10 ⟨v4, rfl, b4, -, t4⟩; have K10 := Lib.hid (K9.out.past t4); have R4 := Lib.hid (And.intro ((R3.out.1.past t4).byts.src) (And.intro ((R3.out.2.past t4).byts.src) (HBx.out ▸ b4.src))); clear b4 t4)
        | (go_at_call 39; (with_reducible refine (z8_read K8.out.pool HB.out).mono ?_); rintro x w9 ⟨v3, rfl, b3, f3, t3⟩; have K9 := Lib.hid (K8.out.past t3); have R3 := Lib.hid (And.intro (R8.out.past t3) (show Rd w w9 v3 B 0 from ⟨b3, fun j _ => Nat.zero_le j⟩)); clear b3 f3 t3)
        | (go_at_call 39; (with_reducible refine (z8_read10 K6.out.pool HB.out).mono ?_); rintro x w7 ⟨v2, rfl, b2, -, t2⟩; have K7 := Lib.hid (K6.out.past t2); have R7 := Lib.hid (And.intro (R6.out.past t2) b2.src); clear b2 t2)
        | (go_at_call 39; (with_reducible refine (z8_read K5.out.pool HB.out).mono ?_); rintro x w6 ⟨v1, rfl, b1, f1, t1⟩; have K6 := Lib.hid (K5.out.past t1); have R6 := Lib.hid (show Rd w w6 v1 B w4.heap.size from ⟨b1, f1⟩); clear b1 f1 t1)
        | (go_at_call 41; (with_reducible refine (HW2.out _ _ K7.out.pool (HSb.out _ K7.out.turn)).mono ?_); rintro x w8 ⟨rfl, h8, t8⟩; have K8 := Lib.hid (K7.out.same h8 t8); have R8 := Lib.hid (R7.out.1.later t8 (fun j hj => K4.out.pool.lt hj)); clear h8 t8)
        | (go_at_call 21; (with_reducible refine (same_any _ _ _ _ R4.out.2.2 (HSb.out _ K10.out.turn)).mono ?_); rintro x w' ⟨rfl, rfl⟩)
        | (go_at_call 21; (with_reducible refine (same_any _ _ _ _ R4.out.1 R4.out.2.1).mono ?_); rintro x w' ⟨rfl, rfl⟩)
        | (go_at_call 21; (with_reducible refine (same_any _ _ _ _ R7.out.1.byts.src R7.out.2).mono ?_); rintro x w' ⟨rfl, rfl⟩)
        | (go_at_call 31; (with_reducible refine (awake_b K10.out.turn).mono ?_); rintro x w11 ⟨rfl, t11⟩; have K11 := Lib.hid t11; clear t11))
      go_ret
      exact ⟨rfl, K11.out⟩
end Go.Proofs.Ytdhbhigoboamfaa
