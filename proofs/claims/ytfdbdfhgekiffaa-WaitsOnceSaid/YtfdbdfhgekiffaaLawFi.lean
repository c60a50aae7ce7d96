/-
  WaitsFirst's walk. Conditions: the arguments can be read.
-/
import Derived.Test.YtfdbdfhgekiffaaBView
namespace Go.Proofs.Ytfdbdfhgekiffaa
open Go.ChangeShapes Go.WideShapes Go.ChangeAt Go.RowKit Go.Shelf

theorem wrap_fit (x : Int) (h : fit x) : IntKind.i64.wrap x = x := by
  rw [IntKind.wrap_i64]
  unfold fit at h
  omega
/-- The first from place j on of which p is true; -1, if there is none. -/
def wantI (p : It → Bool) (its : List It) (j : Nat) : Int := (((its.drop j).findIdx? p).map (fun k => ((k + j : Nat) : Int))).getD (-1)
theorem wantI_end (p : It → Bool) (its : List It) : wantI p its its.length = -1 := by simp [wantI]
theorem wantI_step {p : It → Bool} {its : List It} {j : Nat} {i : It} (hi : its[j]? = some i) : wantI p its j = if p i = true then (j : Int) else wantI p its (j + 1) := by
  obtain ⟨hlt, he⟩ := List.getElem?_eq_some_iff.1 hi
  unfold wantI
  rw [List.drop_eq_getElem_cons hlt, he, List.findIdx?_cons]
  cases hp : p i with
  | true => simp
  | false =>
    simp only [Bool.false_eq_true, if_false]
    cases (List.drop (j + 1) its).findIdx? p with
    | none => rfl
    | some k =>
      simp only [Option.map_some, Option.getD_some]
      omega
theorem wantI_zero (P : Int → Bool) (o : Int) (its : List It) : wantI (fun i => i.o == o && P i.m) its 0 = ((fitI P o its).map (fun (k : Nat) => (k : Int))).getD (-1) := by
  unfold wantI fitI
  rw [List.drop_zero]
  rfl
theorem blk_one (its : List It) : blkS 2 [] 1 its = if posB its = true then 0 else -10 := by
  unfold blkS
  cases posB its <;> simp [hasW]
theorem blk_oneL (its : List It) (h : posB its = true) : blkL 2 [] 1 9 its = [⟨1, 9, its⟩] := by
  unfold blkL
  rw [blk_one, h]
  simp
theorem one_tell (its : List It) (P : Int → Bool) (o s f : Int) : ([⟨1, 9, its⟩] : List Wt).filterMap (wkA P o s f) = ((fitI P o its).map (fun (k : Nat) => (⟨1, (k : Int), s, f⟩ : Wk))).toList ∧ ([⟨1, 9, its⟩] : List Wt).filter (keepA P o) = if (fitI P o its).isNone = true then [⟨1, 9, its⟩] else [] := by
  unfold wkA keepA
  cases h : fitI P o its <;> simp [h]
set_option maxRecDepth 20000 in
set_option maxHeartbeats 2000000 in
theorem fi_walk (ob sh : Int) (ho : fit ob) (sp : Option Addr) (len cap : Nat) (its : List It) (w : World) (h : RdIt w (.slice sp len cap) its) (hl : its.length = len) :
    Calls Try.prog 6 #[.slice sp len cap, .int .i64 ob, .int .i64 sh] w fun e w' => e = .returned (.bool true) ∧ Turn NoBlock w w' := by
  have CN := Lib.hid (wst_new 2 w (by omega) (by omega))
  have CA := Lib.hid awake16
  by_cases hbig : 12 < len
  · have hbi : (12 : Int) < (len : Int) := by omega
    clear h
    go_enter Try.func6, Try.ntmps6
    go_wp2_with (first
      | (go_at_call 8; (with_reducible refine CN.out.mono ?_); rintro x w1 ⟨c, rfl, k1, -⟩; have K1 := Lib.hid k1; clear k1)
      | (go_at_call 9; (with_reducible refine (CA.out _).mono ?_); rintro x w2 ⟨rfl, t2⟩; have T2 := Lib.hid t2; clear t2))
    go_ret
    exact ⟨rfl, TT K1.out.turn T2.out⟩
  · have hbi : ¬ (12 : Int) < (len : Int) := by omega
    have CI := Lib.hid (fun W (t : Turn NoBlock w W) => items_of (h.past t) (by omega))
    have HR := Lib.hid h
    have HL := Lib.hid hl
    have CB := Lib.hid (show ∀ (w1 W : World) (c : Nat) (u : Value), WSt w w1 c 2 [] NoBlock → Turn NoBlock w1 W → IRow u its W → Calls Try.prog 11 #[.pointer (some ⟨c, 0, none⟩), .int .i64 1, .int .i64 9, u] W fun x w' => x = .returned (.int .i64 (blkS 2 [] 1 its)) ∧ WSt w w' c 2 (blkL 2 [] 1 9 its) NoBlock from
      fun w1 W c u hs t hu => ((hs.past t).block 1 9 u its hu (by omega) (fit_small _ (by omega)) (fit_small _ (by omega)) h.2).mono (fun _ _ hh => ⟨hh.1, hh.2.1⟩))
    by_cases hp : posB its = true
    · have e1 := blk_one its
      rw [if_pos hp] at e1
      have e2 := blk_oneL its hp
      rw [e1, e2] at CB
      have HO := Lib.hid ho
      have hpos : 0 < len := by have := (of_decide_eq_true hp).1; omega
      have ew : IntKind.i64.wrap ((len : Int) - 1) = (len : Int) - 1 := wrap_fit _ (by unfold fit; omega)
      clear h hl hp e1 e2 ho
      go_enter Try.func6, Try.ntmps6
      go_wp2_with (first
        | (go_at_call 8; (with_reducible refine CN.out.mono ?_); rintro x w1 ⟨c, rfl, k1, -⟩; have K1 := Lib.hid k1; clear k1)
        | (go_at_call 10; (with_reducible refine (CI.out _ K1.out.turn).mono ?_); rintro x w2 ⟨u, rfl, i2, t2, k2⟩; have I2 := Lib.hid (And.intro i2 (And.intro t2 k2)); obtain ⟨up, uc, rfl⟩ := WRow.sl i2; clear i2 t2 k2)
        | (go_at_call 11; (with_reducible refine (CB.out w1 _ c _ K1.out I2.out.2.1 I2.out.1).mono ?_); rintro x w3 ⟨rfl, k3⟩; have K3 := Lib.hid k3; clear k3))
      go_loopg [9, 10] len (fun z s9 s10 wr => ∃ j : Nat, j ≤ len ∧ z = j ∧ s10 = .int .i64 ((j : Int) - 1) ∧ s9 = .int .i64 (wantI (fun i => i.o == ob && meetB i.m sh) its j) ∧ w3 = wr)
      case atStart => exact ⟨len, Nat.le_refl _, rfl, rfl, by rw [← HL.out, wantI_end], rfl⟩
      case round =>
        obtain ⟨j, hj, hz, rfl, rfl, rfl⟩ := hrel
        cases j with
        | zero =>
          have hz0 := wantI_zero (fun m => meetB m sh) ob its
          obtain ⟨o1, o2⟩ := one_tell its (fun m => meetB m sh) ob 0 sh
          have CT := Lib.hid (K3.out.tell ob sh HO.out)
          rw [o1, o2] at CT
          rw [hz0]
          clear hz0 o1 o2
          cases hf : fitI (fun m => meetB m sh) ob its with
          | none =>
            rw [hf] at CT
            simp only [Option.map_none, Option.getD_none, Option.toList_none, Option.isNone_none, if_true] at CT ⊢
            clear hf
            have hb : hasW [⟨1, 9, its⟩] 1 = true := by simp [hasW]
            go_wp2_with (first
              | (go_at_call 14; (with_reducible refine CT.out.mono ?_); rintro x w4 ⟨v, rfl, r4, k4, -, -⟩; have K4 := Lib.hid k4; obtain ⟨vp, vc, rfl⟩ := WRow.sl r4; clear r4 k4)
              | (go_at_call 25; (with_reducible refine (K4.out.blocked 1 (fit_small _ (by omega))).mono ?_); rintro x w5 ⟨rfl, rfl⟩; rw [hb])
              | (go_at_call 9; (with_reducible refine (CA.out _).mono ?_); rintro x w6 ⟨rfl, t6⟩; have T6 := Lib.hid t6; clear t6))
            go_ret
            exact ⟨rfl, TT K4.out.turn T6.out⟩
          | some k =>
            rw [hf] at CT
            simp only [Option.map_some, Option.getD_some, Option.toList_some, Option.isNone_some, Bool.false_eq_true, if_false] at CT ⊢
            clear hf
            have hb : hasW [] 1 = false := rfl
            have hk0 : ¬ (k : Int) < 0 := by omega
            go_wp2_with (first
              | (go_at_call 14; (with_reducible refine CT.out.mono ?_); rintro x w4 ⟨v, rfl, r4, k4, -, -⟩; have K4 := Lib.hid k4; obtain ⟨vg, vo, vc, rfl, -⟩ := WRow.shape r4 (by simp); obtain ⟨q0, q1, q2, q3⟩ := r4.four (j := 0) rfl; simp only [Nat.zero_mul, Nat.add_zero] at q0 q1 q2 q3; clear r4 k4)
              | (go_at_call 25; (with_reducible refine (K4.out.blocked 1 (fit_small _ (by omega))).mono ?_); rintro x w5 ⟨rfl, rfl⟩; rw [hb])
              | (go_at_call 9; (with_reducible refine (CA.out _).mono ?_); rintro x w6 ⟨rfl, t6⟩; have T6 := Lib.hid t6; clear t6))
            go_ret
            exact ⟨rfl, TT K4.out.turn T6.out⟩
        | succ j =>
          have hjl : j < len := by omega
          obtain ⟨i, hi⟩ : ∃ i, its[j]? = some i := ⟨_, List.getElem?_eq_getElem (by rw [HL.out]; exact hjl)⟩
          obtain ⟨g, o, c', he, d0, d1⟩ := (HR.out.past K3.out.turn).two hi
          simp only [Value.slice.injEq] at he
          obtain ⟨rfl, -, rfl⟩ := he
          have ej : ((j + 1 : Nat) : Int) - 1 = (j : Int) := by omega
          have hjn : (j : Int) < (len : Int) := by omega
          have hj0 : (0 : Int) ≤ (j : Int) := by omega
          have hjneg : ¬ (j : Int) < 0 := by omega
          have ewj : IntKind.i64.wrap ((j : Int) - 1) = (j : Int) - 1 := wrap_fit _ (by unfold fit; omega)
          have hw := wantI_step (p := fun i => i.o == ob && meetB i.m sh) hi
          rw [ej]
          generalize wantI (fun i => i.o == ob && meetB i.m sh) its (j + 1) = u at *
          have HW := Lib.hid hw
          clear hw hi
          by_cases hio : i.o = ob
          · have hob : (i.o == ob) = true := by simp [hio]
            obtain ⟨bb, hbb⟩ : ∃ bb, meetB i.m sh = bb := ⟨_, rfl⟩
            have hm : (bits .and .i64 i.m sh != 0) = bb := hbb
            have HB := Lib.hid (And.intro hob hbb)
            clear hbb
            cases bb with
            | true =>
              go_wp2
              go_roundg j
              case measure => omega
              case rel => exact ⟨j, by omega, rfl, rfl, by rw [HW.out, HB.out.1, HB.out.2]; rfl, rfl⟩
            | false =>
              go_wp2
              go_roundg j
              case measure => omega
              case rel => exact ⟨j, by omega, rfl, rfl, by rw [HW.out, HB.out.1, HB.out.2]; rfl, rfl⟩
          · have hob : (i.o == ob) = false := by simp [hio]
            have HB := Lib.hid hob
            go_wp2
            go_roundg j
            case measure => omega
            case rel => exact ⟨j, by omega, rfl, rfl, by rw [HW.out, HB.out]; rfl, rfl⟩
    · have e1 := blk_one its
      rw [if_neg hp] at e1
      have e2 : blkL 2 [] 1 9 its = [] := by unfold blkL; rw [e1]; rfl
      rw [e1, e2] at CB
      clear h hl hp e1 e2
      go_enter Try.func6, Try.ntmps6
      go_wp2_with (first
        | (go_at_call 8; (with_reducible refine CN.out.mono ?_); rintro x w1 ⟨c, rfl, k1, -⟩; have K1 := Lib.hid k1; clear k1)
        | (go_at_call 10; (with_reducible refine (CI.out _ K1.out.turn).mono ?_); rintro x w2 ⟨u, rfl, i2, t2, k2⟩; have I2 := Lib.hid (And.intro i2 (And.intro t2 k2)); clear i2 t2 k2)
        | (go_at_call 11; (with_reducible refine (CB.out w1 _ c _ K1.out I2.out.2.1 I2.out.1).mono ?_); rintro x w3 ⟨rfl, k3⟩; have K3 := Lib.hid k3; clear k3)
        | (go_at_call 24; (with_reducible refine (K3.out.count).mono ?_); rintro x w4 ⟨rfl, rfl⟩)
        | (go_at_call 9; (with_reducible refine (CA.out _).mono ?_); rintro x w5 ⟨rfl, t5⟩; have T5 := Lib.hid t5; clear t5))
      go_ret
      exact ⟨rfl, TT K3.out.turn T5.out⟩
end Go.Proofs.Ytfdbdfhgekiffaa
