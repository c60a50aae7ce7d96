/-
  Make: a task is made, or why not, of all inputs. Conditions: the tree lies in memory, and has fewer tasks than a million.
-/
import Derived.Test.YtabakjimlndhcaaTkMade
import Derived.Test.YtabakjimlndhcaaTkDep
namespace Go.Proofs.Ytabakjimlndhcaa
open Go.ChangeShapes Go.WideShapes Go.ChangeAt Go.RowKit

theorem quiet_more {P : Program} {f : FuncId} {args : Array Value} {w : World} {n : Nat} {v : Value}
    (h : Calls P f args (w.drewN n) fun e w' => e = .returned v ∧ ∃ m, w' = (w.drewN n).drewN m) : Calls P f args (w.drewN n) fun e w'' => e = .returned v ∧ ∃ m, w'' = w.drewN m :=
  h.mono fun _ _ ⟨he, m, hm⟩ => ⟨he, n + m, hm.trans (by simp [World.drewN, Nat.add_assoc])⟩
theorem quiet_same {P : Program} {f : FuncId} {args : Array Value} {w : World} {n : Nat} {v : Value}
    (h : Calls P f args (w.drewN n) fun e w' => e = .returned v ∧ w.drewN n = w') : Calls P f args (w.drewN n) fun e w'' => e = .returned v ∧ ∃ m, w'' = w.drewN m :=
  h.mono fun _ _ ⟨he, hm⟩ => ⟨he, n, hm.symm⟩
theorem fits_any (k pk : Int) (w : World) : Calls Try.prog 73 #[.int .i64 k, .int .i64 pk] w fun x w' => x = .returned (.bool (fitsB k pk)) ∧ w = w' := by
  unfold fitsB
  by_cases h1 : k = 1
  · subst h1
    go_enter Try.func73, Try.ntmps73
    go_wp2
    go_ret
    refine ⟨?_, rfl⟩
    by_cases h : pk = 1 <;> simp [h]
  · by_cases h2 : k = 2
    · subst h2
      go_enter Try.func73, Try.ntmps73
      go_wp2
      go_ret
      refine ⟨?_, rfl⟩
      by_cases h : pk = 1 <;> simp [h]
    · by_cases h3 : k = 3
      · subst h3
        go_enter Try.func73, Try.ntmps73
        go_wp2
        go_ret
        refine ⟨?_, rfl⟩
        by_cases h : pk = 2 <;> simp [h]
      · have b1 : (k == 1) = false := by simpa using h1
        have b2 : (k == 2) = false := by simpa using h2
        have b3 : (k == 3) = false := by simpa using h3
        go_enter Try.func73, Try.ntmps73
        go_wp2
        go_ret
        refine ⟨?_, rfl⟩
        simp [h1, h2, h3]
theorem forb_any (k : Int) (w : World) : Calls Try.prog 75 #[.int .i64 k] w fun x w' => x = .returned (.int .i64 (forb k)) ∧ w = w' := by
  unfold forb
  by_cases h2 : k = 2
  · subst h2
    go_enter Try.func75, Try.ntmps75
    go_wp2
    go_ret
    exact ⟨rfl, rfl⟩
  · by_cases h1 : k = 1
    · subst h1
      go_enter Try.func75, Try.ntmps75
      go_wp2
      go_ret
      exact ⟨rfl, rfl⟩
    · have b1 : (k == 1) = false := by simpa using h1
      have b2 : (k == 2) = false := by simpa using h2
      rw [if_neg h2, if_neg h1]
      go_enter Try.func75, Try.ntmps75
      go_wp2
      go_ret
      exact ⟨rfl, rfl⟩
section
variable {w w' : World} {c n p q j i : Nat} {most code : Int} {T T' : Nat → Tk} {sv : Value} {B : Nat → Nat} {V : Nat → Value} {G G' : Nat → Nat}
theorem jobP_lt (ok : TOK most n T) (hp : p < n) : jobP T p < n := by
  unfold jobP
  have := ok.dok.par p hp
  split <;> omega
theorem job_any (h : KMem w c most n T sv B V G) (ok : TOK most n T) (hn : n ≤ 1000000) (hp : p < n) : Calls Try.prog 74 #[tp c, tp (B p)] w fun x w' => x = .returned (tp (B (jobP T p))) ∧ ∃ m, w' = w.drewN m := by
  have o0 := h.o0 hp
  by_cases hk : (T p).kind = 2
  · have h0 : 0 < p := by
      rcases Nat.eq_zero_or_pos p with rfl | h0
      · have := ok.root.2; omega
      · exact h0
    obtain ⟨i, hi, hpi, -⟩ := ok.up p hp h0
    have C := Lib.hid (parent_any h hn hp (show i < n by omega) hpi)
    have hj : jobP T p = i := by unfold jobP; rw [if_pos hk]; omega
    rw [hj]
    rw [hk] at o0
    unfold tp at *
    clear h ok hj hpi
    go_enter Try.func74, Try.ntmps74
    go_wp2_with (go_at_call 77; (with_reducible refine C.out.mono ?_); rintro e w2 ⟨rfl, m2⟩; have M2 := Lib.hid m2; clear m2)
    go_ret
    exact ⟨rfl, M2.out⟩
  · have hj : jobP T p = p := by unfold jobP; rw [if_neg hk]
    have hb : ((T p).kind == 2) = false := by simpa using hk
    rw [hj]
    unfold tp at *
    clear h ok hj
    generalize (T p).kind = k at *
    go_enter Try.func74, Try.ntmps74
    go_wp2
    go_ret
    exact ⟨rfl, 0, rfl⟩
/-- Behind add: the parent's row, and its count. -/
theorem KMem.add_rest {b : Nat} {sv' : Value} {t : Tk} (h : KMem w c most n T sv B V G) (hd : DOK n T) (hn : n ≤ 1000000) (hp : p < n) (hA : AddM w w' c most (liveN T n : Int) n sv sv' B b t) (htp : t.par = (p : Int) + 1) (hts : t.st ≠ 2) :
    ∃ pv cv W7, (∀ ty, (Builtin.append_ #[53, 53] ty #[V p, .slice (some ⟨w'.heap.size, 0, none⟩) 1 1]).run Try.prog (w'.alloc (.cells #[.int .i64 ((n : Int) + 1)] 3)) = .ok (.slice pv ((kidL T n p).length + 1) cv) W7) ∧
      w'.cell? ⟨B p, 6, none⟩ = some (V p) ∧ W7.cell? ⟨B p, 6, none⟩ = some (V p) ∧ W7.frozen? ⟨B p, 6, none⟩ = false ∧ W7.cell? ⟨B p, 8, none⟩ = some (.int .i64 (liveK T n p : Int)) ∧ W7.frozen? ⟨B p, 8, none⟩ = false ∧ (liveK T n p ≤ 1000000) ∧
      (KMem ((W7.setCell ⟨B p, 6, none⟩ (.slice pv ((kidL T n p).length + 1) cv)).setCell ⟨B p, 8, none⟩ (.int .i64 ((liveK T n p : Int) + 1))) c most (n + 1) (setT T n t) sv' (updN B n b) (updN (updN V n (.slice none 0 0)) p (.slice pv ((kidL T n p).length + 1) cv)) (updN G n 0) ∧
        Turn (KFoot c n sv B V) w ((W7.setCell ⟨B p, 6, none⟩ (.slice pv ((kidL T n p).length + 1) cv)).setCell ⟨B p, 8, none⟩ (.int .i64 ((liveK T n p : Int) + 1))) ∧
        ∀ k, KFoot c (n + 1) sv' (updN B n b) (updN (updN V n (.slice none 0 0)) p (.slice pv ((kidL T n p).length + 1) cv)) k → KFoot c n sv B V k ∨ w.heap.size ≤ k) := by
  have a1 : ∀ {k : Nat} {e : TypeId}, TBlk w k e → e ≠ 125 → e ≠ 132 → ¬ (k = c ∨ Blk sv k) := fun {k e} hk h1 h2 hh => by
    rcases hh with rfl | hh
    · exact (hk.unlike h.ct h1) rfl
    · exact (hk.unlike (h.row.typed hh) h2) rfl
  have o6 := hA.turn.heap (h.obj p hp) (a1 (h.bt hp) (by decide) (by decide))
  have k6 : Nums (V p) (numL (kidL T n p)) w' := (h.kid p hp).kept hA.turn (fun k hk => a1 (WRow.typed (h.kid p hp) hk) (by decide) (by decide))
  have hkl : (kidL T n p).length ≤ 1000000 := by
    have h2 : (kidL T n p).length ≤ (List.range n).length := List.length_filter_le _ _
    rw [List.length_range] at h2
    omega
  have hlk : liveK T n p ≤ (kidL T n p).length := List.countP_le_length
  obtain ⟨pv, cv, W7, hap, r7, t7, k7⟩ := push_any ((n : Int) + 1) k6 (by rw [numL_len]; omega)
  rw [numL_len] at hap r7 k7
  have o7 := t7.heap o6 (fun hk => ((show TBlk w' (B p) 136 from ⟨_, o6⟩).unlike (WRow.typed k6 hk) (by decide)) rfl)
  exact ⟨pv, cv, W7, hap, by simpa [tkc] using cell_at o6 6, by simpa [tkc] using cell_at o7 6, free_at o7 6, by simpa [tkc] using cell_at o7 8, free_at o7 8, by omega, h.made hd hp hA htp hts r7 t7 k7⟩
/-- What Make leaves. -/
def MkPost (w : World) (c : Nat) (most : Int) (n : Nat) (T : Nat → Tk) (sv : Value) (B : Nat → Nat) (V : Nat → Value) (t : Tk) (s : Int) (w' : World) : Prop :=
  (s ≠ 0 → Turn NoBlock w w') ∧ (s = 0 → Turn (KFoot c n sv B V) w w' ∧ ∃ sv' B' V' G', KMem w' c most (n + 1) (setT T n t) sv' B' V' G' ∧ ∀ k, KFoot c (n + 1) sv' B' V' k → KFoot c n sv B V k ∨ w.heap.size ≤ k)
def mkN (n : Nat) (s : Int) : Int := if s = 0 then (n : Int) + 1 else 0
theorem mkPost_yes {t : Tk} {W : World} {sv' : Value} {B' : Nat → Nat} {V' : Nat → Value} {G' : Nat → Nat} (tW : Turn NoBlock w W) (h : KMem w' c most (n + 1) (setT T n t) sv' B' V' G' ∧ Turn (KFoot c n sv B V) W w' ∧ ∀ k, KFoot c (n + 1) sv' B' V' k → KFoot c n sv B V k ∨ W.heap.size ≤ k) : MkPost w c most n T sv B V t 0 w' :=
  ⟨fun e => absurd rfl e, fun _ => ⟨(tW.mono (fun _ h => h.elim)).trans h.2.1 (fun _ hk => .inl hk), sv', B', V', G', h.1, fun _ hk => (h.2.2 _ hk).imp id (fun e => Nat.le_trans tW.size e)⟩⟩
theorem mkPost_no {t : Tk} {s : Int} (hs : s ≠ 0) (tt : Turn NoBlock w w') : MkPost w c most n T sv B V t s w' := ⟨fun _ => tt, fun e => absurd e hs⟩
set_option maxRecDepth 20000 in
set_option maxHeartbeats 4000000 in
theorem make_any (h : KMem w c most n T sv B V G) (ok : TOK most n T) (hn : n ≤ 999999) (kind par : Int) : Calls Try.prog 45 #[tp c, .int .i64 kind, .int .i64 par] w fun x w' =>
    x = .returned (.tuple #[.int .i64 (mkN n (mkS most n T kind par)), .int .i64 (mkS most n T kind par)]) ∧ MkPost w c most n T sv B V (newT T kind par) (mkS most n T kind par) w' := by
  have hlive : liveN T n ≤ 1000000 := by
    have : liveN T n ≤ (List.range n).length := List.countP_le_length
    rw [List.length_range] at this
    omega
  by_cases hin : inN n par = false
  · have hm : mkS most n T kind par = -25 := by unfold mkS; rw [if_pos hin]
    have C := Lib.hid (find_no h.fm par hin)
    rw [hm]
    unfold tp at *
    clear h ok hin hm
    go_enter Try.func45, Try.ntmps45
    go_wp2_with (go_at_call 70; (with_reducible refine C.out.mono ?_); rintro e w2 ⟨rfl, rfl⟩)
    go_ret2
    exact ⟨rfl, mkPost_no (by decide) (Turn.refl _ _)⟩
  replace hin : inN n par = true := by simpa using hin
  have hp := plc_lt hin
  have hpe := plc_id hin
  have C := Lib.hid (find_yes h.fm (by omega) hp)
  rw [← hpe] at C
  have hm0 : mkS most n T kind par = if fitsB kind (T (plc par)).kind = false then -12 else if (T (plc par)).st = 2 then -20 else
      if bits .and .i64 (T (jobP T (plc par))).pol (forb kind) ≠ 0 then -30 else if kind = 1 ∧ dep T (plc par) = 16 then -14 else if (liveN T n : Int) = most then -4 else 0 := by
    conv => lhs; unfold mkS
    rw [if_neg (by rw [hin]; simp)]
  have HMK := Lib.hid (fun hs => ok.make (kind := kind) (par := par) (show mkS most n T kind par = 0 from hs))
  have HPE := Lib.hid hpe
  have HM := Lib.hid h
  have HK := Lib.hid ok
  have o0 := h.o0 hp
  have o2 := h.o2 hp
  have o4 := h.o4 hp
  have CF := Lib.hid (fun W => fits_any kind (T (plc par)).kind W)
  rw [hm0]
  have HIN := Lib.hid hin
  clear hm0 hin hpe
  generalize hpp : plc par = p at *
  have HPP := Lib.hid hpp
  have HP := Lib.hid hp
  clear hpp
  by_cases hf : fitsB kind (T p).kind = false
  · rw [hf] at CF
    rw [if_pos hf]
    unfold tp at *
    clear h ok hf
    generalize (T p).kind = pk at *
    go_enter Try.func45, Try.ntmps45
    go_wp2_with (first
      | (go_at_call 70; (with_reducible refine C.out.mono ?_); rintro e w2 ⟨rfl, rfl⟩)
      | (go_at_call 73; (with_reducible refine (CF.out _).mono ?_); rintro e w2 ⟨rfl, rfl⟩))
    go_ret2
    exact ⟨rfl, mkPost_no (by decide) (Turn.refl _ _)⟩
  have hft : fitsB kind (T p).kind = true := by simpa using hf
  rw [hft] at CF
  rw [if_neg hf]
  have HFT := Lib.hid hft
  clear hf hft
  by_cases hst : (T p).st = 2
  · rw [if_pos hst]
    rw [hst] at o2
    unfold tp at *
    clear h ok hst
    generalize (T p).kind = pk at *
    go_enter Try.func45, Try.ntmps45
    go_wp2_with (first
      | (go_at_call 70; (with_reducible refine C.out.mono ?_); rintro e w2 ⟨rfl, rfl⟩)
      | (go_at_call 73; (with_reducible refine (CF.out _).mono ?_); rintro e w2 ⟨rfl, rfl⟩))
    go_ret2
    exact ⟨rfl, mkPost_no (by decide) (Turn.refl _ _)⟩
  rw [if_neg hst]
  have hsb : ((T p).st == 2) = false := by simpa using hst
  have HST := Lib.hid hst
  have CJ := Lib.hid (fun k => quiet_more (job_any (h.past ((Turn.refl NoBlock w).drewN k)) ok (by omega) hp))
  have CO := Lib.hid (fun k => quiet_same (n := k) (forb_any kind (w.drewN k)))
  have hjl := jobP_lt ok hp
  have j4 := h.o4 hjl
  clear hst
  by_cases hpo : bits .and .i64 (T (jobP T p)).pol (forb kind) ≠ 0
  · rw [if_pos hpo]
    have hpb : (bits .and .i64 (T (jobP T p)).pol (forb kind) != 0) = true := by simpa using hpo
    unfold tp at *
    clear h ok hpo
    generalize (T (jobP T p)).pol = jp at *
    generalize (T p).st = ps at *
    generalize (T p).kind = pk at *
    go_enter Try.func45, Try.ntmps45
    go_upto_region 8 with (first
      | (go_at_call 70; (with_reducible refine C.out.mono ?_); rintro e w2 ⟨rfl, rfl⟩)
      | (go_at_call 73; (with_reducible refine (CF.out _).mono ?_); rintro e w2 ⟨rfl, rfl⟩))
    go_quiet (first
      | (go_at_call 74; with_reducible exact (CJ.out _))
      | (go_at_call 75; with_reducible exact (CO.out _)))
    go_wp2
    go_ret2
    exact ⟨rfl, mkPost_no (by decide) ((Turn.refl _ _).drewN _)⟩
  rw [if_neg hpo]
  have hpb : (bits .and .i64 (T (jobP T p)).pol (forb kind) != 0) = false := by simpa using hpo
  have c0' := fun (W : World) (t : Turn NoBlock w W) => (h.past t).c0
  have CZ := Lib.hid c0'
  have hmost := ok.most
  have CD := Lib.hid (fun W (t : Turn NoBlock w W) => depth_any (h.past t) ok.dok (by omega) hp)
  rw [← HPE.out] at CD
  have CA := Lib.hid (fun W (t : Turn NoBlock w W) (k : Tk) => add_any (h.past t).head (h.past t).row (by omega) ⟨by omega, by omega⟩ k)
  unfold Tk.agg tp at CA
  unfold tp at CD C
  have hpo' := Lib.hid hpo
  clear hpo c0'
  by_cases hk : kind = 1
  · have hkb : (kind == 1) = true := by simpa using hk
    by_cases h16 : dep T p = 16
    · rw [if_pos ⟨hk, h16⟩]
      rw [h16] at CD
      unfold tp at *
      clear h ok hk h16
      generalize (T (jobP T p)).pol = jp at *
      generalize (T p).st = ps at *
      generalize (T p).kind = pk at *
      go_enter Try.func45, Try.ntmps45
      go_upto_region 8 with (first
        | (go_at_call 70; (with_reducible refine C.out.mono ?_); rintro e w2 ⟨rfl, rfl⟩)
        | (go_at_call 73; (with_reducible refine (CF.out _).mono ?_); rintro e w2 ⟨rfl, rfl⟩))
      go_quiet (first
        | (go_at_call 74; with_reducible exact (CJ.out _))
        | (go_at_call 75; with_reducible exact (CO.out _)))
      have TQ := Lib.hid (show Turn NoBlock w (w.drewN nq) from (Turn.refl _ _).drewN _)
      generalize w.drewN nq = W1 at *
      go_wp2_with (go_at_call 76; (with_reducible refine (CD.out _ TQ.out).mono ?_); rintro e w3 ⟨rfl, t3⟩; have T3 := Lib.hid t3; clear t3)
      go_ret2
      exact ⟨rfl, mkPost_no (by decide) (TT TQ.out T3.out)⟩
    · rw [if_neg (fun e => h16 e.2)]
      have hdb : ((dep T p : Int) == 16) = false := by simp; omega
      by_cases hl : (liveN T n : Int) = most
      · rw [if_pos hl]
        have hlb : ((liveN T n : Int) == most) = true := by simpa using hl
        have C1 := Lib.hid (fun (W : World) (t : Turn NoBlock w W) => (h.past t).c1)
        unfold tp at *
        clear h ok hk h16 hl
        generalize dep T p = dp at *
        generalize (T (jobP T p)).pol = jp at *
        generalize (T p).st = ps at *
        generalize (T p).kind = pk at *
        generalize liveN T n = L at *
        go_enter Try.func45, Try.ntmps45
        go_upto_region 8 with (first
          | (go_at_call 70; (with_reducible refine C.out.mono ?_); rintro e w2 ⟨rfl, rfl⟩)
          | (go_at_call 73; (with_reducible refine (CF.out _).mono ?_); rintro e w2 ⟨rfl, rfl⟩))
        go_quiet (first
          | (go_at_call 74; with_reducible exact (CJ.out _))
          | (go_at_call 75; with_reducible exact (CO.out _)))
        have TQ := Lib.hid (show Turn NoBlock w (w.drewN nq) from (Turn.refl _ _).drewN _)
        generalize w.drewN nq = W1 at *
        go_upto_region 12 with (go_at_call 76; (with_reducible refine (CD.out _ TQ.out).mono ?_); rintro e w3 ⟨rfl, t3⟩; have T3 := Lib.hid (TT TQ.out t3); clear t3)
        have z0 := CZ.out _ T3.out
        have z1 := C1.out _ T3.out
        go_quiet (fail)
        go_wp2
        go_ret2
        exact ⟨rfl, mkPost_no (by decide) (T3.out.drewN _)⟩
      · rw [if_neg hl]
        have hlb : ((liveN T n : Int) == most) = false := by simpa using hl
        have C1 := Lib.hid (fun (W : World) (t : Turn NoBlock w W) => (h.past t).c1)
        have HT := Lib.hid (show newT T kind par = ⟨kind, par, 1, 0, (T p).pol, 0⟩ by unfold newT; rw [if_pos hk, if_pos hk, HPP.out])
        rw [HT.out]
        have hb1 : ((1 : Int) == 1) = true := rfl
        unfold tp at *
        clear h ok h16 hl
        generalize dep T p = dp at *
        generalize (T (jobP T p)).pol = jp at *
        generalize (T p).st = ps at *
        generalize (T p).kind = pk at *
        subst hk
        go_enter Try.func45, Try.ntmps45
        go_upto_region 8 with (first
          | (go_at_call 70; (with_reducible refine C.out.mono ?_); rintro e w2 ⟨rfl, rfl⟩)
          | (go_at_call 73; (with_reducible refine (CF.out _).mono ?_); rintro e w2 ⟨rfl, rfl⟩))
        go_quiet (first
          | (go_at_call 74; with_reducible exact (CJ.out _))
          | (go_at_call 75; with_reducible exact (CO.out _)))
        have TQ := Lib.hid (show Turn NoBlock w (w.drewN nq) from (Turn.refl _ _).drewN _)
        generalize w.drewN nq = W1 at *
        go_upto_region 12 with (go_at_call 76; (with_reducible refine (CD.out _ TQ.out).mono ?_); rintro e w3 ⟨rfl, t3⟩; have T3 := Lib.hid (TT TQ.out t3); clear t3)
        have z0 := CZ.out _ T3.out
        have z1 := C1.out _ T3.out
        go_quiet (fail)
        have T4 := Lib.hid (show Turn NoBlock w (w3.drewN nq) from T3.out.drewN _)
        generalize w3.drewN nq = W2 at *
        clear z0 z1 o0 o2 o4
        go_upto_region 16 with (fail)
        have tA : Turn NoBlock w (W2.alloc (.cells #[.int .i64 1, .int .i64 par, .int .i64 0, .int .i64 0, .int .i64 0, .int .i64 0] 76)) := T4.out.alloc _
        have hb := heap_alloc_new W2 (.cells #[.int .i64 1, .int .i64 par, .int .i64 0, .int .i64 0, .int .i64 0, .int .i64 0] 76)
        have hwz := T4.out.size
        generalize hbn : W2.heap.size = bn at *
        generalize W2.alloc (.cells #[.int .i64 1, .int .i64 par, .int .i64 0, .int .i64 0, .int .i64 0, .int .i64 0] 76) = W3 at *
        have y4 := (HM.out.past tA).o4 HP.out
        have hs2 := set_at hb 2 (.int .i64 1)
        have hs4 := set_at hs2 4 (.int .i64 (T p).pol)
        have T5 := Lib.hid (show Turn NoBlock w (((W3.setCell ⟨bn, 2, none⟩ (.int .i64 1)).setCell ⟨bn, 4, none⟩ (.int .i64 (T p).pol)).drew) from ((tA.setCell (p := ⟨bn, 2, none⟩) (.inr hwz) _).setCell (p := ⟨bn, 4, none⟩) (.inr hwz) _).drew)
        have y4' : (W3.setCell ⟨bn, 2, none⟩ (.int .i64 1)).cell? ⟨B p, 4, none⟩ = some (.int .i64 (T p).pol) := (HM.out.past (tA.setCell (p := ⟨bn, 2, none⟩) (.inr hwz) _)).o4 HP.out
        have f2 := free_at hb 2
        have f4 := free_at hb 4
        have b2 := cell_at hb 2
        have b4 := cell_at hb 4
        have HS4 := Lib.hid (show (((W3.setCell ⟨bn, 2, none⟩ (.int .i64 1)).setCell ⟨bn, 4, none⟩ (.int .i64 (T p).pol)).drew).heap[bn]? = some (.cells #[.int .i64 1, .int .i64 par, .int .i64 1, .int .i64 0, .int .i64 (T p).pol, .int .i64 0] 76 (0, 0)) from by have e := hs4; simp at e; exact e)
        clear tA hb hwz hs2 hs4
        go_region
        generalize ((W3.setCell ⟨bn, 2, none⟩ (.int .i64 1)).setCell ⟨bn, 4, none⟩ (.int .i64 (T p).pol)).drew = W5 at *
        have e0 := cell_at HS4.out 0
        have e1 := cell_at HS4.out 1
        have e2 := cell_at HS4.out 2
        have e3 := cell_at HS4.out 3
        have e4 := cell_at HS4.out 4
        have e5 := cell_at HS4.out 5
        have CA5 := Lib.hid (CA.out _ T5.out ⟨1, par, 1, 0, (T p).pol, 0⟩)
        clear b2 b4 f2 f4 y4 y4'
        go_wp2_with (first
          | (go_at_call 63; (with_reducible refine CA5.out.mono ?_); rintro e w6 ⟨rfl, sv', b, hA⟩; obtain ⟨pv, cv, W7, hap, r6, r7, g7, r8, g8, hk6, hfin⟩ := (HM.out.past T5.out).add_rest HK.out.dok (by omega) HP.out hA (by rw [HPE.out]) (show (1 : Int) ≠ 2 by decide); have HA := Lib.hid hA; have HFIN := Lib.hid hfin; clear hA hfin)
          | (at_builtin; refine Lib.wpList_append_run _ rfl (.tmp 86) (.tmp 88) 53 53 rfl _ _ rfl rfl _ _ (hap _) ?_))
        go_ret2
        exact ⟨rfl, mkPost_yes T5.out HFIN.out⟩
  · rw [if_neg (fun e => hk e.1)]
    have hkb : (kind == 1) = false := by simpa using hk
    by_cases hl : (liveN T n : Int) = most
    · rw [if_pos hl]
      have hlb : ((liveN T n : Int) == most) = true := by simpa using hl
      have C1 := Lib.hid (fun (W : World) (t : Turn NoBlock w W) => (h.past t).c1)
      unfold tp at *
      clear h ok hl
      generalize (T (jobP T p)).pol = jp at *
      generalize (T p).st = ps at *
      generalize (T p).kind = pk at *
      generalize liveN T n = L at *
      go_enter Try.func45, Try.ntmps45
      go_upto_region 8 with (first
        | (go_at_call 70; (with_reducible refine C.out.mono ?_); rintro e w2 ⟨rfl, rfl⟩)
        | (go_at_call 73; (with_reducible refine (CF.out _).mono ?_); rintro e w2 ⟨rfl, rfl⟩))
      go_quiet (first
        | (go_at_call 74; with_reducible exact (CJ.out _))
        | (go_at_call 75; with_reducible exact (CO.out _)))
      have TQ := Lib.hid (show Turn NoBlock w (w.drewN nq) from (Turn.refl _ _).drewN _)
      generalize w.drewN nq = W1 at *
      go_upto_region 12 with (fail)
      have z0 := CZ.out _ TQ.out
      have z1 := C1.out _ TQ.out
      go_quiet (fail)
      go_wp2
      go_ret2
      exact ⟨rfl, mkPost_no (by decide) (TQ.out.drewN _)⟩
    · rw [if_neg hl]
      have hlb : ((liveN T n : Int) == most) = false := by simpa using hl
      have C1 := Lib.hid (fun (W : World) (t : Turn NoBlock w W) => (h.past t).c1)
      have HT := Lib.hid (show newT T kind par = ⟨kind, par, 0, 0, 0, 0⟩ by unfold newT; rw [if_neg hk, if_neg hk])
      rw [HT.out]
      unfold tp at *
      clear h ok hl
      generalize (T (jobP T p)).pol = jp at *
      generalize (T p).st = ps at *
      generalize (T p).kind = pk at *
      go_enter Try.func45, Try.ntmps45
      go_upto_region 8 with (first
        | (go_at_call 70; (with_reducible refine C.out.mono ?_); rintro e w2 ⟨rfl, rfl⟩)
        | (go_at_call 73; (with_reducible refine (CF.out _).mono ?_); rintro e w2 ⟨rfl, rfl⟩))
      go_quiet (first
        | (go_at_call 74; with_reducible exact (CJ.out _))
        | (go_at_call 75; with_reducible exact (CO.out _)))
      have TQ := Lib.hid (show Turn NoBlock w (w.drewN nq) from (Turn.refl _ _).drewN _)
      generalize w.drewN nq = W1 at *
      go_upto_region 12 with (fail)
      have z0 := CZ.out _ TQ.out
      have z1 := C1.out _ TQ.out
      go_quiet (fail)
      have T4 := Lib.hid (show Turn NoBlock w (W1.drewN nq) from TQ.out.drewN _)
      generalize W1.drewN nq = W2 at *
      clear z0 z1 o0 o2 o4
      go_upto_region 17 with (fail)
      have tA : Turn NoBlock w (W2.alloc (.cells #[.int .i64 kind, .int .i64 par, .int .i64 0, .int .i64 0, .int .i64 0, .int .i64 0] 76)) := T4.out.alloc _
      have hb := heap_alloc_new W2 (.cells #[.int .i64 kind, .int .i64 par, .int .i64 0, .int .i64 0, .int .i64 0, .int .i64 0] 76)
      generalize hbn : W2.heap.size = bn at *
      generalize W2.alloc (.cells #[.int .i64 kind, .int .i64 par, .int .i64 0, .int .i64 0, .int .i64 0, .int .i64 0] 76) = W5 at *
      have e0 := cell_at hb 0
      have e1 := cell_at hb 1
      have e2 := cell_at hb 2
      have e3 := cell_at hb 3
      have e4 := cell_at hb 4
      have e5 := cell_at hb 5
      have T5 := Lib.hid tA
      have CA5 := Lib.hid (CA.out _ tA ⟨kind, par, 0, 0, 0, 0⟩)
      clear tA hb
      go_wp2_with (first
        | (go_at_call 63; (with_reducible refine CA5.out.mono ?_); rintro e w6 ⟨rfl, sv', b, hA⟩; obtain ⟨pv, cv, W7, hap, r6, r7, g7, r8, g8, hk6, hfin⟩ := (HM.out.past T5.out).add_rest HK.out.dok (by omega) HP.out hA (by rw [HPE.out]) (show (0 : Int) ≠ 2 by decide); have HA := Lib.hid hA; have HFIN := Lib.hid hfin; clear hA hfin)
        | (at_builtin; refine Lib.wpList_append_run _ rfl (.tmp 86) (.tmp 88) 53 53 rfl _ _ rfl rfl _ _ (hap _) ?_))
      go_ret2
      exact ⟨rfl, mkPost_yes T5.out HFIN.out⟩
end
end Go.Proofs.Ytabakjimlndhcaa
