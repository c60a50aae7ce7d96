/-
  What Write, Read, Call, Forget and Close answer in a law's state, whatever is asked: as functions of the planes. No conditions.
-/
import Derived.Test.YtcbphfpfdfgehaaCTake
import Derived.Test.YtcbphfpfdfgehaaCClose
namespace Go.Proofs.Ytcbphfpfdfgehaa
open Go.RowKit

section
variable (d : Nat) (K : Nat → MS) (e : Nat) (m : Msg)
/-- The place of the first that waits for this Txid; how many wait, if none does. -/
def hitI : Nat := (K (oth e)).ws.findIdx (fun t => t.tx == m.tx)
def cwS : Int := if (K e).op = false then -24 else if 4096 < m.d.length ∨ 64 < m.h.length then -14 else if (K (oth e)).op = false then -24 else if hitI K e m < (K (oth e)).ws.length then 0 else if d ≤ (K (oth e)).q.length then -22 else 0
def cwN : Int := if cwS d K e m = 0 then (match (K (oth e)).ws[hitI K e m]? with | some t => t.who | none => -1) else 0
def cwK : Nat → MS := if cwS d K e m = 0 then (if hitI K e m < (K (oth e)).ws.length then updN K (oth e) (msAns (K (oth e)) (hitI K e m) m) else updN K (oth e) (msAdd (K (oth e)) m)) else K
variable (k : Int)
def barB : Bool := (K e).ws.any (fun t => t.who == k || t.tx == m.tx) || (K (oth e)).ws.any (fun t => t.who == k)
def ccS : Int := if (K e).op = false then -24 else if m.tx = 0 ∨ k < 0 then -10 else if barB K e m k = true then -26 else cwS d K e m
def ccK : Nat → MS := if ccS d K e m k = 0 then updN (cwK d K e m) e ⟨(cwK d K e m e).op, (cwK d K e m e).q, (cwK d K e m e).ws ++ [⟨k, m.tx⟩]⟩ else K
def cfS : Int := if (K e).op = false then -24 else if (K e).ws.findIdx (fun t => t.who == k) < (K e).ws.length then 0 else -25
def cfK : Nat → MS := if cfS K e k = 0 then updN K e ⟨(K e).op, (K e).q, (K e).ws.eraseIdx ((K e).ws.findIdx (fun t => t.who == k))⟩ else K
variable (b i : Int)
def crS : Int := if (K e).op = false then -24 else if b < 0 ∨ i < 0 then -10 else match (K e).q with | [] => if (K (oth e)).op then -22 else -24 | m :: _ => if b < m.d.length ∨ i < m.h.length then -15 else 0
def crM : Msg := if crS K e b i = 0 then (match (K e).q with | [] => ⟨0, [], []⟩ | m :: _ => m) else if crS K e b i = -15 then (match (K e).q with | [] => ⟨0, [], []⟩ | m :: _ => m.blank) else ⟨0, [], []⟩
def crK : Nat → MS := if crS K e b i = 0 then updN K e ⟨(K e).op, (K e).q.tail, (K e).ws⟩ else K
def clS : Int := if (K e).op = false then -24 else 0
def clH : List Int := if (K e).op = false then [] else (K e).q.flatMap (·.h)
def clW : List Int := if (K e).op = false then [] else (K e).ws.map (·.who) ++ (K (oth e)).ws.map (·.who)
def clK : Nat → MS := if (K e).op = false then K else updN (updN K e ⟨false, [], []⟩) (oth e) ⟨(K (oth e)).op, (K (oth e)).q, []⟩
end
theorem CSt.mono {w0 w : World} {c depth N M : Nat} {K : Nat → MS} {X : Nat → Prop} (h : CSt w0 w c depth N K X) (hM : N ≤ M) : CSt w0 w c depth M K X := by
  obtain ⟨S, V, h1, h2, h3, h4, h5⟩ := h
  exact ⟨S, V, h1.mono hM, h2, h3, h4, h5⟩
theorem CSt.d12 {w0 w : World} {c depth N : Nat} {K : Nat → MS} {X : Nat → Prop} (h : CSt w0 w c depth N K X) : 1 ≤ depth ∧ depth ≤ 65536 := by
  obtain ⟨S, V, h1, h2, h3, h4, h5⟩ := h
  exact ⟨h1.d1, h1.d2⟩
theorem zeroQ (w : World) : (⟨⟨0, [], []⟩, .slice none 0 0, .slice none 0 0⟩ : QM).Ok w := ⟨wrow_nil _ _ _, wrow_nil _ _ _, by decide, by decide⟩
theorem zeroQ_F (k : Nat) : ¬ (⟨⟨0, [], []⟩, .slice none 0 0, .slice none 0 0⟩ : QM).F k := fun h => h.elim (blk_nil k) (blk_nil k)
section
open Go.ChangeShapes Go.WideShapes Go.ChangeAt
theorem results_tct {fn : Func} {t p u : Tmp} {ty : TypeId} (h : fn.results = #[.tmp t, .cell p ty, .tmp u]) (tmps : Array Value) (P : Program) (w : World) :
    (results fn tmps).run P w =
      ((asAddr (tmps.getD p undef)).run P w).andThen fun a w₁ => ((loadVar ty a).run P w₁).andThen fun v w₂ => .ok (.tuple #[tmps.getD t undef, v, tmps.getD u undef]) w₂ := by
  simp only [results, h]
  simp [Sem.run_bind, Result.andThen]
theorem close_bad {w : World} {c : Nat} (e : Int) (h0 : e ≠ 0) (h1 : e ≠ 1) :
    Calls Try.prog 46 #[.pointer (some ⟨c, 0, none⟩), .int .i64 e] w fun x w' => x = .returned (.tuple #[.slice none 0 0, .slice none 0 0, .int .i64 (-10)]) ∧ Turn NoBlock w w' := by
  have HC := Lib.hid (fun W => right_bad c e W h0 h1)
  clear h0 h1
  go_enter Try.func46, Try.ntmps46
  go_wp2_with (go_at_call 48; (with_reducible refine (HC.out _).mono ?_); rintro x w' ⟨rfl, rfl⟩)
  refine bodyPost_ret (v := .tuple #[.slice none 0 0, .slice none 0 0, .int .i64 (-10)]) (by rw [results_tct rfl]; go_simp) rfl ⟨rfl, (Turn.refl _ _).alloc _⟩
theorem close_shut {w : World} {c depth N : Nat} {S : Nat → Sd} {V : Nat → SV} (hC : CMem w c depth N S V) {e : Nat} (he : e < 2) (ho : (S e).op = false) :
    Calls Try.prog 46 #[.pointer (some ⟨c, 0, none⟩), .int .i64 (e : Int)] w fun x w' => x = .returned (.tuple #[.slice none 0 0, .slice none 0 0, .int .i64 (-24)]) ∧ Turn NoBlock w w' := by
  have HC := Lib.hid (fun W (t : Turn NoBlock w W) => right_no (hC.past t) he ho)
  clear hC he ho
  go_enter Try.func46, Try.ntmps46
  go_wp2_with (go_at_call 48; (with_reducible refine (HC.out _ ((Turn.refl _ _).alloc _)).mono ?_); rintro x w' ⟨rfl, rfl⟩)
  refine bodyPost_ret (v := .tuple #[.slice none 0 0, .slice none 0 0, .int .i64 (-24)]) (by rw [results_tct rfl]; go_simp) rfl ⟨rfl, (Turn.refl _ _).alloc _⟩
end
section
variable {w0 w : World} {c depth N : Nat} {K : Nat → MS} {X : Nat → Prop}
theorem CSt.kp (h : CSt w0 w c depth N K X) {w' : World} (t : Turn NoBlock w w') {M : Nat} (hM : N ≤ M) : CSt w0 w' c depth M K X ∧ Kp X w w' := ⟨(h.past t).mono hM, Kp.of_past t⟩
theorem wtot0 {S : Nat → Sd} {V : Nat → SV} (hC : CMem w c depth N S V) (hN : N ≤ 1000000) (m : Msg) (hm : m.d.length ≤ maxLen ∧ m.h.length ≤ maxLen) (vd vh : Value) (hd : RdB w vd m.d) (hh : RdI w vh m.h) (hA : ∀ j, (Blk vd j ∨ Blk vh j) → ¬ CFoot c S V j) :
    Calls Try.prog 36 #[.pointer (some ⟨c, 0, none⟩), .int .i64 0, .agg #[.int .i64 m.tx, vd, vh]] w fun x w' => x = .returned (.tuple #[.int .i64 (cwN depth (planeOf S) 0 m), .int .i64 (cwS depth (planeOf S) 0 m)]) ∧ ((cwS depth (planeOf S) 0 m ≠ 0 ∧ Turn NoBlock w w') ∨ (cwS depth (planeOf S) 0 m = 0 ∧ Made w w' c depth (N + 1) S V (cwK depth (planeOf S) 0 m))) := by
  have e0 : oth 0 = 1 := rfl
  have hd3 : ∃ p n c, vd = .slice p n c := ⟨_, _, hd.sl.choose_spec⟩
  have hh3 : ∃ p n c, vh = .slice p n c := ⟨_, _, hh.sl.choose_spec⟩
  have no : ∀ u : Int, u ≠ 0 → cwS depth (planeOf S) 0 m = u → ∀ (x : Ending) (w' : World), (x = .returned (.tuple #[.int .i64 0, .int .i64 u]) ∧ Turn NoBlock w w') → x = .returned (.tuple #[.int .i64 (cwN depth (planeOf S) 0 m), .int .i64 (cwS depth (planeOf S) 0 m)]) ∧ ((cwS depth (planeOf S) 0 m ≠ 0 ∧ Turn NoBlock w w') ∨ (cwS depth (planeOf S) 0 m = 0 ∧ Made w w' c depth (N + 1) S V (cwK depth (planeOf S) 0 m))) := by
    rintro u hu hs x w' ⟨rfl, t⟩
    unfold cwN
    rw [hs, if_neg hu]
    exact ⟨rfl, .inl ⟨hu, t⟩⟩
  cases ho : (S 0).op with
  | false => exact (write_shut hC (e := 0) (by omega) ho m.tx vd vh hd3 hh3).mono (no (-24) (by decide) (by unfold cwS; rw [if_pos (show (planeOf S 0).op = false from ho)]))
  | true =>
    have e1 : ¬ (planeOf S 0).op = false := by show ¬ (S 0).op = false; rw [ho]; decide
    by_cases hl : 4096 < m.d.length ∨ 64 < m.h.length
    · exact (write_long hC (e := 0) (by omega) ho m.tx _ _ hl hm.1 hm.2 vd vh hd.sl hh.sl).mono (no (-14) (by decide) (by unfold cwS; rw [if_neg e1, if_pos hl]))
    · have hfit : m.fits := ⟨by omega, by omega⟩
      cases hp : (S 1).op with
      | false => exact (write_peer0 hC ho hp m.tx _ _ hfit vd vh hd.sl hh.sl).mono (no (-24) (by decide) (by unfold cwS; rw [if_neg e1, if_neg hl, e0, if_pos (show (planeOf S 1).op = false from hp)]))
      | true =>
        have e2 : ¬ (planeOf S (oth 0)).op = false := by show ¬ (S 1).op = false; rw [hp]; decide
        have hfe := first_ex (fun t => t.tx == m.tx) (S 1).ws
        have hfe2 : hitI (planeOf S) 0 m = (S 1).ws.findIdx (fun t => t.tx == m.tx) := rfl
        by_cases hk : hitI (planeOf S) 0 m < (planeOf S (oth 0)).ws.length
        · have hs : cwS depth (planeOf S) 0 m = 0 := by unfold cwS; rw [if_neg e1, if_neg hl, if_neg e2, if_pos hk]
          have hkt : (S 1).ws[hitI (planeOf S) 0 m]? = some ((S 1).ws[hitI (planeOf S) 0 m]'hk) := List.getElem?_eq_getElem hk
          have hn : cwN depth (planeOf S) 0 m = ((S 1).ws[hitI (planeOf S) 0 m]'hk).who := by
            unfold cwN
            rw [if_pos hs, e0, show (planeOf S 1).ws = (S 1).ws from rfl, hkt]
          have hK : cwK depth (planeOf S) 0 m = updN (planeOf S) 1 (msAns (planeOf S 1) (hitI (planeOf S) 0 m) m) := by unfold cwK; rw [if_pos hs, if_pos hk, e0]
          rw [hn, hs, hK]
          exact (write_wake0 hC hN ho hp m hfit _ _ hfe hkt vd vh hd hh hA).mono (fun x w' h => ⟨h.1, .inr ⟨rfl, h.2⟩⟩)
        · have hw : ∀ t ∈ (S 1).ws, t.tx ≠ m.tx := fun t ht' he' => by
            obtain ⟨j, hj, hj2⟩ := List.getElem_of_mem ht'
            have hle := hfe.le
            have hk' : ¬ (S 1).ws.findIdx (fun t => t.tx == m.tx) < (S 1).ws.length := hk
            have := hfe.no j t (by omega) (by rw [List.getElem?_eq_getElem hj, hj2])
            simp [he'] at this
          by_cases hq : depth ≤ (planeOf S (oth 0)).q.length
          · exact (write_full0 hC hN ho hp m hfit hw hq vd vh hd.sl hh.sl).mono (no (-22) (by decide) (by unfold cwS; rw [if_neg e1, if_neg hl, if_neg e2, if_neg hk, if_pos hq]))
          · have hs : cwS depth (planeOf S) 0 m = 0 := by unfold cwS; rw [if_neg e1, if_neg hl, if_neg e2, if_neg hk, if_neg hq]
            have hn : cwN depth (planeOf S) 0 m = -1 := by
              unfold cwN
              rw [if_pos hs, List.getElem?_eq_none (Nat.le_of_not_lt hk)]
            have hK : cwK depth (planeOf S) 0 m = updN (planeOf S) 1 (msAdd (planeOf S 1) m) := by unfold cwK; rw [if_pos hs, if_neg hk, e0]
            rw [hn, hs, hK]
            exact (write_put0 hC hN ho hp m hfit hw (Nat.lt_of_not_le hq) vd vh hd hh).mono (fun x w' h => ⟨h.1, .inr ⟨rfl, h.2⟩⟩)
theorem CSt.writeT0 (h : CSt w0 w c depth N K X) (hN : N ≤ 1000000) (m : Msg) (hm : m.d.length ≤ maxLen ∧ m.h.length ≤ maxLen) (vd vh : Value) (hd : RdB w vd m.d) (hh : RdI w vh m.h) (hA : ∀ j, (Blk vd j ∨ Blk vh j) → X j) :
    Calls Try.prog 36 #[.pointer (some ⟨c, 0, none⟩), .int .i64 0, .agg #[.int .i64 m.tx, vd, vh]] w fun x w' => x = .returned (.tuple #[.int .i64 (cwN depth K 0 m), .int .i64 (cwS depth K 0 m)]) ∧ CSt w0 w' c depth (N + 1) (cwK depth K 0 m) X ∧ Kp X w w' := by
  have hst := h
  obtain ⟨S, V, hC, rfl, ht, hf0, hx⟩ := h
  refine (wtot0 hC hN m hm vd vh hd hh (fun j hj => (hx j (hA j hj)).2)).mono (fun x w' h => ⟨h.1, ?_⟩)
  rcases h.2 with ⟨h1, t⟩ | ⟨h1, h2⟩
  · have hK : cwK depth (planeOf S) 0 m = planeOf S := by unfold cwK; rw [if_neg h1]
    rw [hK]
    exact hst.kp t (by omega)
  · exact cst_made ht hf0 hx h2
theorem CSt.callT0 (h : CSt w0 w c depth N K X) (hN : N ≤ 1000000) (k : Int) (m : Msg) (hm : m.d.length ≤ maxLen ∧ m.h.length ≤ maxLen) (vd vh : Value) (hd : RdB w vd m.d) (hh : RdI w vh m.h) (hA : ∀ j, (Blk vd j ∨ Blk vh j) → X j) :
    Calls Try.prog 42 #[.pointer (some ⟨c, 0, none⟩), .int .i64 0, .int .i64 k, .agg #[.int .i64 m.tx, vd, vh]] w fun x w' => x = .returned (.int .i64 (ccS depth K 0 m k)) ∧ CSt w0 w' c depth (N + 2) (ccK depth K 0 m k) X ∧ Kp X w w' := by
  have hst := h
  obtain ⟨S, V, hC, rfl, ht, hf0, hx⟩ := h
  have hd3 : ∃ p n c, vd = .slice p n c := ⟨_, _, hd.sl.choose_spec⟩
  have hh3 : ∃ p n c, vh = .slice p n c := ⟨_, _, hh.sl.choose_spec⟩
  have no : ∀ u : Int, u ≠ 0 → ccS depth (planeOf S) 0 m k = u → ∀ (x : Ending) (w' : World), (x = .returned (.int .i64 u) ∧ Turn NoBlock w w') → x = .returned (.int .i64 (ccS depth (planeOf S) 0 m k)) ∧ CSt w0 w' c depth (N + 2) (ccK depth (planeOf S) 0 m k) X ∧ Kp X w w' := by
    rintro u hu hs x w' ⟨rfl, t⟩
    unfold ccK
    rw [hs, if_neg hu]
    exact ⟨rfl, hst.kp t (by omega)⟩
  cases ho : (S 0).op with
  | false => exact (call_shut hC (e := 0) (by omega) ho k m.tx vd vh hd3 hh3).mono (no (-24) (by decide) (by unfold ccS; rw [if_pos (show (planeOf S 0).op = false from ho)]))
  | true =>
    have e1 : ¬ (planeOf S 0).op = false := by show ¬ (S 0).op = false; rw [ho]; decide
    by_cases hb : m.tx = 0 ∨ k < 0
    · exact (call_args hC (e := 0) (by omega) ho k m.tx hb vd vh hd3 hh3).mono (no (-10) (by decide) (by unfold ccS; rw [if_neg e1, if_pos hb]))
    · have htx : m.tx ≠ 0 := fun h => hb (.inl h)
      have hk : ¬ k < 0 := fun h => hb (.inr h)
      by_cases hbar : barB (planeOf S) 0 m k = true
      · have hex : ∃ x ∈ waitL S 0, Bars 0 k m.tx x := by
          unfold barB at hbar
          rw [Bool.or_eq_true, List.any_eq_true, List.any_eq_true] at hbar
          rcases hbar with ⟨t, ht1, ht2⟩ | ⟨t, ht1, ht2⟩
          · refine ⟨(0, t), List.mem_append_left _ (List.mem_map.2 ⟨t, ht1, rfl⟩), ?_⟩
            rw [Bool.or_eq_true] at ht2
            exact ht2.imp (fun h => by simpa using h) (fun h => ⟨rfl, by simpa using h⟩)
          · exact ⟨(1, t), List.mem_append_right _ (List.mem_map.2 ⟨t, ht1, rfl⟩), .inl (by simpa using ht2)⟩
        exact (call_exists0 hC hN ho k m.tx htx hk hex vd vh hd3 hh3).mono (no (-26) (by decide) (by unfold ccS; rw [if_neg e1, if_neg hb, if_pos hbar]))
      · have hno : NoBar 0 k m.tx (waitL S 0) := by
          intro x hx' hbx
          apply hbar
          unfold barB
          rw [Bool.or_eq_true, List.any_eq_true, List.any_eq_true]
          unfold waitL at hx'
          rcases List.mem_append.1 hx' with h1 | h1
          · obtain ⟨t, h2, rfl⟩ := List.mem_map.1 h1
            left
            refine ⟨t, h2, ?_⟩
            rw [Bool.or_eq_true]
            exact hbx.imp (fun h => by simpa using h) (fun h => by simpa using h.2)
          · obtain ⟨t, h2, rfl⟩ := List.mem_map.1 h1
            right
            refine ⟨t, h2, ?_⟩
            rcases hbx with h3 | h3
            · simpa using h3
            · have := h3.1; simp [oth] at this
        have hcs : ccS depth (planeOf S) 0 m k = cwS depth (planeOf S) 0 m := by unfold ccS; rw [if_neg e1, if_neg hb, if_neg hbar]
        have hA' : ∀ j, (Blk vd j ∨ Blk vh j) → ¬ CFoot c S V j := fun j hj => (hx j (hA j hj)).2
        by_cases hs : cwS depth (planeOf S) 0 m = 0
        · have hop : (cwK depth (planeOf S) 0 m 0).op = true := by
            unfold cwK
            rw [if_pos hs]
            split
            · rw [updN_other _ _ (by decide)]; exact ho
            · rw [updN_other _ _ (by decide)]; exact ho
          have hcw : ∀ W, Turn NoBlock w W → Calls Try.prog 36 #[.pointer (some ⟨c, 0, none⟩), .int .i64 0, .agg #[.int .i64 m.tx, vd, vh]] W fun x w' => x = .returned (.tuple #[.int .i64 (cwN depth (planeOf S) 0 m), .int .i64 0]) ∧ Made W w' c depth (N + 1) S V (cwK depth (planeOf S) 0 m) := fun W t =>
            (wtot0 (hC.past t) hN m hm vd vh (hd.past t) (hh.past t) hA').mono (fun x w' h => by
              rcases h.2 with ⟨h1, _⟩ | ⟨_, h2⟩
              · exact absurd hs h1
              · exact ⟨by rw [h.1, hs], h2⟩)
          refine (call_ok0 hC hN ho k m.tx htx hk hno vd vh hd3 hh3 _ _ hop hcw).mono (fun x w' h => ?_)
          have hK : ccK depth (planeOf S) 0 m k = updN (cwK depth (planeOf S) 0 m) 0 ⟨(cwK depth (planeOf S) 0 m 0).op, (cwK depth (planeOf S) 0 m 0).q, (cwK depth (planeOf S) 0 m 0).ws ++ [⟨k, m.tx⟩]⟩ := by unfold ccK; rw [hcs, if_pos hs]
          rw [hK, hcs, hs]
          exact ⟨h.1, cst_made ht hf0 hx h.2⟩
        · exact (call_fail0 hC hN ho k m.tx htx hk hno vd vh hd3 hh3 (cwN depth (planeOf S) 0 m) (cwS depth (planeOf S) 0 m) hs (fun W t =>
            (wtot0 (hC.past t) hN m hm vd vh (hd.past t) (hh.past t) hA').mono (fun x w' h => by
              rcases h.2 with ⟨_, h2⟩ | ⟨h1, _⟩
              · exact ⟨h.1, h2⟩
              · exact absurd h1 hs))).mono (no _ hs hcs)
theorem CSt.forgetT0 (h : CSt w0 w c depth N K X) (hN : N ≤ 1000000) (k : Int) :
    Calls Try.prog 44 #[.pointer (some ⟨c, 0, none⟩), .int .i64 0, .int .i64 k] w fun x w' => x = .returned (.int .i64 (cfS K 0 k)) ∧ CSt w0 w' c depth N (cfK K 0 k) X ∧ Kp X w w' := by
  have hst := h
  obtain ⟨S, V, hC, rfl, ht, hf0, hx⟩ := h
  have no : ∀ u : Int, u ≠ 0 → cfS (planeOf S) 0 k = u → ∀ (x : Ending) (w' : World), (x = .returned (.int .i64 u) ∧ Turn NoBlock w w') → x = .returned (.int .i64 (cfS (planeOf S) 0 k)) ∧ CSt w0 w' c depth N (cfK (planeOf S) 0 k) X ∧ Kp X w w' := by
    rintro u hu hs x w' ⟨rfl, t⟩
    unfold cfK
    rw [hs, if_neg hu]
    exact ⟨rfl, hst.kp t (Nat.le_refl _)⟩
  cases ho : (S 0).op with
  | false => exact (forget_shut hC (e := 0) (by omega) ho k).mono (no (-24) (by decide) (by unfold cfS; rw [if_pos (show (planeOf S 0).op = false from ho)]))
  | true =>
    have e1 : ¬ (planeOf S 0).op = false := by show ¬ (S 0).op = false; rw [ho]; decide
    have hfe := first_ex (fun t => t.who == k) (S 0).ws
    by_cases hk : (planeOf S 0).ws.findIdx (fun t => t.who == k) < (planeOf S 0).ws.length
    · have hs : cfS (planeOf S) 0 k = 0 := by unfold cfS; rw [if_neg e1, if_pos hk]
      refine (forget_hit0 hC hN ho k _ hfe hk).mono (fun x w' h => ?_)
      have hK : cfK (planeOf S) 0 k = updN (planeOf S) 0 ⟨(planeOf S 0).op, (planeOf S 0).q, (S 0).ws.eraseIdx ((S 0).ws.findIdx (fun t => t.who == k))⟩ := by unfold cfK; rw [if_pos hs]; rfl
      rw [hs, hK]
      exact ⟨h.1, cst_made ht hf0 hx h.2⟩
    · have hle : (S 0).ws.findIdx (fun t => t.who == k) = (S 0).ws.length := Nat.le_antisymm hfe.le (Nat.le_of_not_lt hk)
      rw [hle] at hfe
      exact (forget_miss0 hC hN ho k hfe).mono (no (-25) (by decide) (by unfold cfS; rw [if_neg e1, if_neg hk]))
theorem CSt.closeT0 (h : CSt w0 w c depth N K X) (hN : N ≤ 1000000) :
    Calls Try.prog 46 #[.pointer (some ⟨c, 0, none⟩), .int .i64 0] w fun x w' => ∃ vh vc, x = .returned (.tuple #[vh, vc, .int .i64 (clS K 0)]) ∧ Nums vh (clH K 0) w' ∧ Nums vc (clW K 0) w' ∧ CSt w0 w' c depth N (clK K 0) X ∧ Kp X w w' := by
  have hst := h
  obtain ⟨S, V, hC, rfl, ht, hf0, hx⟩ := h
  cases ho : (S 0).op with
  | false =>
    have e1 : (planeOf S 0).op = false := ho
    unfold clS clH clW clK
    rw [if_pos e1, if_pos e1, if_pos e1, if_pos e1]
    exact (close_shut hC (e := 0) (by omega) ho).mono (fun x w' h => ⟨_, _, h.1, wrow_nil _ _ _, wrow_nil _ _ _, hst.kp h.2 (Nat.le_refl _)⟩)
  | true =>
    have e1 : ¬ (planeOf S 0).op = false := by show ¬ (S 0).op = false; rw [ho]; decide
    unfold clS clH clW clK
    rw [if_neg e1, if_neg e1, if_neg e1, if_neg e1]
    refine (close_open0 hC hN ho).mono ?_
    rintro x w' ⟨vh, vc, rfl, h1, h2, h3⟩
    refine ⟨vh, vc, rfl, ?_, ?_, cst_made ht hf0 hx h3⟩
    · have : (planeOf S 0).q.flatMap (·.h) = hsOf (S 0).q := by
        show ((S 0).q.map (·.m)).flatMap (·.h) = _
        unfold hsOf
        rw [List.flatMap_map]
      rw [this]; exact h1
    · have : (planeOf S 0).ws.map (·.who) ++ (planeOf S (oth 0)).ws.map (·.who) = (waitL S 0).map (·.2.who) := by
        unfold waitL
        rw [List.map_append, List.map_map, List.map_map]
        rfl
      rw [this]; exact h2
theorem CSt.readT0 (h : CSt w0 w c depth N K X) (hN : N ≤ 1000000) (b i : Int) :
    Calls Try.prog 37 #[.pointer (some ⟨c, 0, none⟩), .int .i64 0, .int .i64 b, .int .i64 i] w fun x w' => ∃ q : QM, x = .returned (.tuple #[q.agg, .int .i64 (crS K 0 b i)]) ∧ q.m = crM K 0 b i ∧ q.Ok w' ∧ CSt w0 w' c depth N (crK K 0 b i) (fun k => X k ∨ q.F k) ∧ Kp X w w' ∧ ∀ k, q.F k → w0.heap.size ≤ k := by
  have hst := h
  obtain ⟨S, V, hC, rfl, ht, hf0, hx⟩ := h
  have no : ∀ u : Int, u ≠ 0 → u ≠ -15 → crS (planeOf S) 0 b i = u → ∀ (x : Ending) (w' : World), (x = .returned (.tuple #[.agg #[.int .i64 0, .slice none 0 0, .slice none 0 0], .int .i64 u]) ∧ Turn NoBlock w w') → ∃ q : QM, x = .returned (.tuple #[q.agg, .int .i64 (crS (planeOf S) 0 b i)]) ∧ q.m = crM (planeOf S) 0 b i ∧ q.Ok w' ∧ CSt w0 w' c depth N (crK (planeOf S) 0 b i) (fun k => X k ∨ q.F k) ∧ Kp X w w' ∧ ∀ k, q.F k → w0.heap.size ≤ k := by
    rintro u hu hu2 hs x w' ⟨rfl, t⟩
    have hM : crM (planeOf S) 0 b i = ⟨0, [], []⟩ := by unfold crM; rw [hs, if_neg hu, if_neg hu2]
    have hK : crK (planeOf S) 0 b i = planeOf S := by unfold crK; rw [hs, if_neg hu]
    rw [hM, hK, hs]
    exact ⟨⟨⟨0, [], []⟩, .slice none 0 0, .slice none 0 0⟩, rfl, rfl, zeroQ _, (hst.past t).fewer (fun k hk => hk.elim (fun h => h) (fun h => (zeroQ_F k h).elim)), Kp.of_past t, fun k hk => (zeroQ_F k hk).elim⟩
  cases ho : (S 0).op with
  | false => exact (read_shut hC (e := 0) (by omega) ho b i).mono (no (-24) (by decide) (by decide) (by unfold crS; rw [if_pos (show (planeOf S 0).op = false from ho)]))
  | true =>
    have e1 : ¬ (planeOf S 0).op = false := by show ¬ (S 0).op = false; rw [ho]; decide
    by_cases hn : b < 0 ∨ i < 0
    · exact (read_neg hC (e := 0) (by omega) ho b i hn).mono (no (-10) (by decide) (by decide) (by unfold crS; rw [if_neg e1, if_pos hn]))
    · have hcore : Calls Try.prog 37 #[.pointer (some ⟨c, 0, none⟩), .int .i64 0, .int .i64 b, .int .i64 i] w (RPost w c 1 (S 0) (V 0) (S 1).op b i) := by
        rcases (show b ≤ i ∨ i < b by omega) with h2 | h2
        · exact read_core0a hC hN b i (by omega) h2 ho
        · exact read_core0b hC hN b i (by omega) h2 ho
      refine hcore.mono (fun x w' hp => ?_)
      rcases hp with ⟨q, qs, hs, hh⟩ | ⟨hs, h3⟩
      · have hq' : (planeOf S 0).q = q.m :: qs.map (·.m) := by show (S 0).q.map (·.m) = _; rw [hs]; rfl
        rcases hh with ⟨hbig, r, hrm, rfl, hro, hrf, t⟩ | ⟨hbig, rfl, hdr⟩
        · have hb : b < q.m.d.length ∨ i < q.m.h.length := hbig
          have hs2 : crS (planeOf S) 0 b i = -15 := by unfold crS; rw [if_neg e1, if_neg hn, hq']; simp only [if_pos hb]
          have hM : crM (planeOf S) 0 b i = q.m.blank := by unfold crM; rw [hs2, if_neg (by decide), if_pos rfl, hq']
          have hK : crK (planeOf S) 0 b i = planeOf S := by unfold crK; rw [hs2, if_neg (by decide)]
          rw [hs2, hM, hK]
          refine ⟨r, rfl, hrm, hro, ⟨S, V, hC.past t, rfl, ht.trans t (fun _ h => .inl h), hf0, fun k hk => ?_⟩, Kp.of_past t, fun k hk => by have := hrf k hk; have := ht.size; omega⟩
          rcases hk with hk | hk
          · exact ⟨Nat.lt_of_lt_of_le (hx k hk).1 t.size, (hx k hk).2⟩
          · exact ⟨hro.lt hk, fun hh => by have := hC.lt hh; have := hrf k hk; omega⟩
        · have hb : ¬ (b < q.m.d.length ∨ i < q.m.h.length) := hbig
          have hs2 : crS (planeOf S) 0 b i = 0 := by unfold crS; rw [if_neg e1, if_neg hn, hq']; simp only [if_neg hb]
          have hM : crM (planeOf S) 0 b i = q.m := by unfold crM; rw [hs2, if_pos rfl, hq']
          have hK : crK (planeOf S) 0 b i = updN (planeOf S) 0 ⟨(planeOf S 0).op, qs.map (·.m), (planeOf S 0).ws⟩ := by unfold crK; rw [hs2, if_pos rfl, hq']; rfl
          rw [hs2, hM, hK]
          obtain ⟨S', V', hmm, hqo, hqf⟩ := made_drop hC (e := 0) (by omega) ho hdr
          refine ⟨q, rfl, rfl, hqo, ⟨S', V', hmm.1, hmm.2.1, ht.trans hmm.2.2.1 (fun k hk => .inr (hf0 k hk)), fun k hk => ?_, fun k hk => ?_⟩, ⟨_, hmm.2.2.1, fun k hk => (hx k hk).2⟩, fun k hk => hf0 k (hqf k hk).1⟩
          · rcases hmm.2.2.2 k hk with h | h
            · exact hf0 k h
            · have := ht.size; omega
          · rcases hk with hk | hk
            · refine ⟨Nat.lt_of_lt_of_le (hx k hk).1 hmm.2.2.1.size, fun hh => ?_⟩
              rcases hmm.2.2.2 k hh with h | h
              · exact (hx k hk).2 h
              · have := (hx k hk).1; omega
            · exact ⟨hqo.lt hk, (hqf k hk).2⟩
      · have hq' : (planeOf S 0).q = [] := by show (S 0).q.map (·.m) = _; rw [hs]; rfl
        refine no _ ?_ ?_ (by unfold crS; rw [if_neg e1, if_neg hn, hq']; rfl) x w' h3
        · split <;> decide
        · split <;> decide
theorem wtot1 {S : Nat → Sd} {V : Nat → SV} (hC : CMem w c depth N S V) (hN : N ≤ 1000000) (m : Msg) (hm : m.d.length ≤ maxLen ∧ m.h.length ≤ maxLen) (vd vh : Value) (hd : RdB w vd m.d) (hh : RdI w vh m.h) (hA : ∀ j, (Blk vd j ∨ Blk vh j) → ¬ CFoot c S V j) :
    Calls Try.prog 36 #[.pointer (some ⟨c, 0, none⟩), .int .i64 1, .agg #[.int .i64 m.tx, vd, vh]] w fun x w' => x = .returned (.tuple #[.int .i64 (cwN depth (planeOf S) 1 m), .int .i64 (cwS depth (planeOf S) 1 m)]) ∧ ((cwS depth (planeOf S) 1 m ≠ 0 ∧ Turn NoBlock w w') ∨ (cwS depth (planeOf S) 1 m = 0 ∧ Made w w' c depth (N + 1) S V (cwK depth (planeOf S) 1 m))) := by
  have e0 : oth 1 = 0 := rfl
  have hd3 : ∃ p n c, vd = .slice p n c := ⟨_, _, hd.sl.choose_spec⟩
  have hh3 : ∃ p n c, vh = .slice p n c := ⟨_, _, hh.sl.choose_spec⟩
  have no : ∀ u : Int, u ≠ 0 → cwS depth (planeOf S) 1 m = u → ∀ (x : Ending) (w' : World), (x = .returned (.tuple #[.int .i64 0, .int .i64 u]) ∧ Turn NoBlock w w') → x = .returned (.tuple #[.int .i64 (cwN depth (planeOf S) 1 m), .int .i64 (cwS depth (planeOf S) 1 m)]) ∧ ((cwS depth (planeOf S) 1 m ≠ 0 ∧ Turn NoBlock w w') ∨ (cwS depth (planeOf S) 1 m = 0 ∧ Made w w' c depth (N + 1) S V (cwK depth (planeOf S) 1 m))) := by
    rintro u hu hs x w' ⟨rfl, t⟩
    unfold cwN
    rw [hs, if_neg hu]
    exact ⟨rfl, .inl ⟨hu, t⟩⟩
  cases ho : (S 1).op with
  | false => exact (write_shut hC (e := 1) (by omega) ho m.tx vd vh hd3 hh3).mono (no (-24) (by decide) (by unfold cwS; rw [if_pos (show (planeOf S 1).op = false from ho)]))
  | true =>
    have e1 : ¬ (planeOf S 1).op = false := by show ¬ (S 1).op = false; rw [ho]; decide
    by_cases hl : 4096 < m.d.length ∨ 64 < m.h.length
    · exact (write_long hC (e := 1) (by omega) ho m.tx _ _ hl hm.1 hm.2 vd vh hd.sl hh.sl).mono (no (-14) (by decide) (by unfold cwS; rw [if_neg e1, if_pos hl]))
    · have hfit : m.fits := ⟨by omega, by omega⟩
      cases hp : (S 0).op with
      | false => exact (write_peer1 hC ho hp m.tx _ _ hfit vd vh hd.sl hh.sl).mono (no (-24) (by decide) (by unfold cwS; rw [if_neg e1, if_neg hl, e0, if_pos (show (planeOf S 0).op = false from hp)]))
      | true =>
        have e2 : ¬ (planeOf S (oth 1)).op = false := by show ¬ (S 0).op = false; rw [hp]; decide
        have hfe := first_ex (fun t => t.tx == m.tx) (S 0).ws
        have hfe2 : hitI (planeOf S) 1 m = (S 0).ws.findIdx (fun t => t.tx == m.tx) := rfl
        by_cases hk : hitI (planeOf S) 1 m < (planeOf S (oth 1)).ws.length
        · have hs : cwS depth (planeOf S) 1 m = 0 := by unfold cwS; rw [if_neg e1, if_neg hl, if_neg e2, if_pos hk]
          have hkt : (S 0).ws[hitI (planeOf S) 1 m]? = some ((S 0).ws[hitI (planeOf S) 1 m]'hk) := List.getElem?_eq_getElem hk
          have hn : cwN depth (planeOf S) 1 m = ((S 0).ws[hitI (planeOf S) 1 m]'hk).who := by
            unfold cwN
            rw [if_pos hs, e0, show (planeOf S 0).ws = (S 0).ws from rfl, hkt]
          have hK : cwK depth (planeOf S) 1 m = updN (planeOf S) 0 (msAns (planeOf S 0) (hitI (planeOf S) 1 m) m) := by unfold cwK; rw [if_pos hs, if_pos hk, e0]
          rw [hn, hs, hK]
          exact (write_wake1 hC hN ho hp m hfit _ _ hfe hkt vd vh hd hh hA).mono (fun x w' h => ⟨h.1, .inr ⟨rfl, h.2⟩⟩)
        · have hw : ∀ t ∈ (S 0).ws, t.tx ≠ m.tx := fun t ht' he' => by
            obtain ⟨j, hj, hj2⟩ := List.getElem_of_mem ht'
            have hle := hfe.le
            have hk' : ¬ (S 0).ws.findIdx (fun t => t.tx == m.tx) < (S 0).ws.length := hk
            have := hfe.no j t (by omega) (by rw [List.getElem?_eq_getElem hj, hj2])
            simp [he'] at this
          by_cases hq : depth ≤ (planeOf S (oth 1)).q.length
          · exact (write_full1 hC hN ho hp m hfit hw hq vd vh hd.sl hh.sl).mono (no (-22) (by decide) (by unfold cwS; rw [if_neg e1, if_neg hl, if_neg e2, if_neg hk, if_pos hq]))
          · have hs : cwS depth (planeOf S) 1 m = 0 := by unfold cwS; rw [if_neg e1, if_neg hl, if_neg e2, if_neg hk, if_neg hq]
            have hn : cwN depth (planeOf S) 1 m = -1 := by
              unfold cwN
              rw [if_pos hs, List.getElem?_eq_none (Nat.le_of_not_lt hk)]
            have hK : cwK depth (planeOf S) 1 m = updN (planeOf S) 0 (msAdd (planeOf S 0) m) := by unfold cwK; rw [if_pos hs, if_neg hk, e0]
            rw [hn, hs, hK]
            exact (write_put1 hC hN ho hp m hfit hw (Nat.lt_of_not_le hq) vd vh hd hh).mono (fun x w' h => ⟨h.1, .inr ⟨rfl, h.2⟩⟩)
theorem CSt.writeT1 (h : CSt w0 w c depth N K X) (hN : N ≤ 1000000) (m : Msg) (hm : m.d.length ≤ maxLen ∧ m.h.length ≤ maxLen) (vd vh : Value) (hd : RdB w vd m.d) (hh : RdI w vh m.h) (hA : ∀ j, (Blk vd j ∨ Blk vh j) → X j) :
    Calls Try.prog 36 #[.pointer (some ⟨c, 0, none⟩), .int .i64 1, .agg #[.int .i64 m.tx, vd, vh]] w fun x w' => x = .returned (.tuple #[.int .i64 (cwN depth K 1 m), .int .i64 (cwS depth K 1 m)]) ∧ CSt w0 w' c depth (N + 1) (cwK depth K 1 m) X ∧ Kp X w w' := by
  have hst := h
  obtain ⟨S, V, hC, rfl, ht, hf0, hx⟩ := h
  refine (wtot1 hC hN m hm vd vh hd hh (fun j hj => (hx j (hA j hj)).2)).mono (fun x w' h => ⟨h.1, ?_⟩)
  rcases h.2 with ⟨h1, t⟩ | ⟨h1, h2⟩
  · have hK : cwK depth (planeOf S) 1 m = planeOf S := by unfold cwK; rw [if_neg h1]
    rw [hK]
    exact hst.kp t (by omega)
  · exact cst_made ht hf0 hx h2
theorem CSt.callT1 (h : CSt w0 w c depth N K X) (hN : N ≤ 1000000) (k : Int) (m : Msg) (hm : m.d.length ≤ maxLen ∧ m.h.length ≤ maxLen) (vd vh : Value) (hd : RdB w vd m.d) (hh : RdI w vh m.h) (hA : ∀ j, (Blk vd j ∨ Blk vh j) → X j) :
    Calls Try.prog 42 #[.pointer (some ⟨c, 0, none⟩), .int .i64 1, .int .i64 k, .agg #[.int .i64 m.tx, vd, vh]] w fun x w' => x = .returned (.int .i64 (ccS depth K 1 m k)) ∧ CSt w0 w' c depth (N + 2) (ccK depth K 1 m k) X ∧ Kp X w w' := by
  have hst := h
  obtain ⟨S, V, hC, rfl, ht, hf0, hx⟩ := h
  have hd3 : ∃ p n c, vd = .slice p n c := ⟨_, _, hd.sl.choose_spec⟩
  have hh3 : ∃ p n c, vh = .slice p n c := ⟨_, _, hh.sl.choose_spec⟩
  have no : ∀ u : Int, u ≠ 0 → ccS depth (planeOf S) 1 m k = u → ∀ (x : Ending) (w' : World), (x = .returned (.int .i64 u) ∧ Turn NoBlock w w') → x = .returned (.int .i64 (ccS depth (planeOf S) 1 m k)) ∧ CSt w0 w' c depth (N + 2) (ccK depth (planeOf S) 1 m k) X ∧ Kp X w w' := by
    rintro u hu hs x w' ⟨rfl, t⟩
    unfold ccK
    rw [hs, if_neg hu]
    exact ⟨rfl, hst.kp t (by omega)⟩
  cases ho : (S 1).op with
  | false => exact (call_shut hC (e := 1) (by omega) ho k m.tx vd vh hd3 hh3).mono (no (-24) (by decide) (by unfold ccS; rw [if_pos (show (planeOf S 1).op = false from ho)]))
  | true =>
    have e1 : ¬ (planeOf S 1).op = false := by show ¬ (S 1).op = false; rw [ho]; decide
    by_cases hb : m.tx = 0 ∨ k < 0
    · exact (call_args hC (e := 1) (by omega) ho k m.tx hb vd vh hd3 hh3).mono (no (-10) (by decide) (by unfold ccS; rw [if_neg e1, if_pos hb]))
    · have htx : m.tx ≠ 0 := fun h => hb (.inl h)
      have hk : ¬ k < 0 := fun h => hb (.inr h)
      by_cases hbar : barB (planeOf S) 1 m k = true
      · have hex : ∃ x ∈ waitL S 1, Bars 1 k m.tx x := by
          unfold barB at hbar
          rw [Bool.or_eq_true, List.any_eq_true, List.any_eq_true] at hbar
          rcases hbar with ⟨t, ht1, ht2⟩ | ⟨t, ht1, ht2⟩
          · refine ⟨(1, t), List.mem_append_left _ (List.mem_map.2 ⟨t, ht1, rfl⟩), ?_⟩
            rw [Bool.or_eq_true] at ht2
            exact ht2.imp (fun h => by simpa using h) (fun h => ⟨rfl, by simpa using h⟩)
          · exact ⟨(0, t), List.mem_append_right _ (List.mem_map.2 ⟨t, ht1, rfl⟩), .inl (by simpa using ht2)⟩
        exact (call_exists1 hC hN ho k m.tx htx hk hex vd vh hd3 hh3).mono (no (-26) (by decide) (by unfold ccS; rw [if_neg e1, if_neg hb, if_pos hbar]))
      · have hno : NoBar 1 k m.tx (waitL S 1) := by
          intro x hx' hbx
          apply hbar
          unfold barB
          rw [Bool.or_eq_true, List.any_eq_true, List.any_eq_true]
          unfold waitL at hx'
          rcases List.mem_append.1 hx' with h1 | h1
          · obtain ⟨t, h2, rfl⟩ := List.mem_map.1 h1
            left
            refine ⟨t, h2, ?_⟩
            rw [Bool.or_eq_true]
            exact hbx.imp (fun h => by simpa using h) (fun h => by simpa using h.2)
          · obtain ⟨t, h2, rfl⟩ := List.mem_map.1 h1
            right
            refine ⟨t, h2, ?_⟩
            rcases hbx with h3 | h3
            · simpa using h3
            · have := h3.1; simp [oth] at this
        have hcs : ccS depth (planeOf S) 1 m k = cwS depth (planeOf S) 1 m := by unfold ccS; rw [if_neg e1, if_neg hb, if_neg hbar]
        have hA' : ∀ j, (Blk vd j ∨ Blk vh j) → ¬ CFoot c S V j := fun j hj => (hx j (hA j hj)).2
        by_cases hs : cwS depth (planeOf S) 1 m = 0
        · have hop : (cwK depth (planeOf S) 1 m 1).op = true := by
            unfold cwK
            rw [if_pos hs]
            split
            · rw [updN_other _ _ (by decide)]; exact ho
            · rw [updN_other _ _ (by decide)]; exact ho
          have hcw : ∀ W, Turn NoBlock w W → Calls Try.prog 36 #[.pointer (some ⟨c, 0, none⟩), .int .i64 1, .agg #[.int .i64 m.tx, vd, vh]] W fun x w' => x = .returned (.tuple #[.int .i64 (cwN depth (planeOf S) 1 m), .int .i64 0]) ∧ Made W w' c depth (N + 1) S V (cwK depth (planeOf S) 1 m) := fun W t =>
            (wtot1 (hC.past t) hN m hm vd vh (hd.past t) (hh.past t) hA').mono (fun x w' h => by
              rcases h.2 with ⟨h1, _⟩ | ⟨_, h2⟩
              · exact absurd hs h1
              · exact ⟨by rw [h.1, hs], h2⟩)
          refine (call_ok1 hC hN ho k m.tx htx hk hno vd vh hd3 hh3 _ _ hop hcw).mono (fun x w' h => ?_)
          have hK : ccK depth (planeOf S) 1 m k = updN (cwK depth (planeOf S) 1 m) 1 ⟨(cwK depth (planeOf S) 1 m 1).op, (cwK depth (planeOf S) 1 m 1).q, (cwK depth (planeOf S) 1 m 1).ws ++ [⟨k, m.tx⟩]⟩ := by unfold ccK; rw [hcs, if_pos hs]
          rw [hK, hcs, hs]
          exact ⟨h.1, cst_made ht hf0 hx h.2⟩
        · exact (call_fail1 hC hN ho k m.tx htx hk hno vd vh hd3 hh3 (cwN depth (planeOf S) 1 m) (cwS depth (planeOf S) 1 m) hs (fun W t =>
            (wtot1 (hC.past t) hN m hm vd vh (hd.past t) (hh.past t) hA').mono (fun x w' h => by
              rcases h.2 with ⟨_, h2⟩ | ⟨h1, _⟩
              · exact ⟨h.1, h2⟩
              · exact absurd h1 hs))).mono (no _ hs hcs)
theorem CSt.forgetT1 (h : CSt w0 w c depth N K X) (hN : N ≤ 1000000) (k : Int) :
    Calls Try.prog 44 #[.pointer (some ⟨c, 0, none⟩), .int .i64 1, .int .i64 k] w fun x w' => x = .returned (.int .i64 (cfS K 1 k)) ∧ CSt w0 w' c depth N (cfK K 1 k) X ∧ Kp X w w' := by
  have hst := h
  obtain ⟨S, V, hC, rfl, ht, hf0, hx⟩ := h
  have no : ∀ u : Int, u ≠ 0 → cfS (planeOf S) 1 k = u → ∀ (x : Ending) (w' : World), (x = .returned (.int .i64 u) ∧ Turn NoBlock w w') → x = .returned (.int .i64 (cfS (planeOf S) 1 k)) ∧ CSt w0 w' c depth N (cfK (planeOf S) 1 k) X ∧ Kp X w w' := by
    rintro u hu hs x w' ⟨rfl, t⟩
    unfold cfK
    rw [hs, if_neg hu]
    exact ⟨rfl, hst.kp t (Nat.le_refl _)⟩
  cases ho : (S 1).op with
  | false => exact (forget_shut hC (e := 1) (by omega) ho k).mono (no (-24) (by decide) (by unfold cfS; rw [if_pos (show (planeOf S 1).op = false from ho)]))
  | true =>
    have e1 : ¬ (planeOf S 1).op = false := by show ¬ (S 1).op = false; rw [ho]; decide
    have hfe := first_ex (fun t => t.who == k) (S 1).ws
    by_cases hk : (planeOf S 1).ws.findIdx (fun t => t.who == k) < (planeOf S 1).ws.length
    · have hs : cfS (planeOf S) 1 k = 0 := by unfold cfS; rw [if_neg e1, if_pos hk]
      refine (forget_hit1 hC hN ho k _ hfe hk).mono (fun x w' h => ?_)
      have hK : cfK (planeOf S) 1 k = updN (planeOf S) 1 ⟨(planeOf S 1).op, (planeOf S 1).q, (S 1).ws.eraseIdx ((S 1).ws.findIdx (fun t => t.who == k))⟩ := by unfold cfK; rw [if_pos hs]; rfl
      rw [hs, hK]
      exact ⟨h.1, cst_made ht hf0 hx h.2⟩
    · have hle : (S 1).ws.findIdx (fun t => t.who == k) = (S 1).ws.length := Nat.le_antisymm hfe.le (Nat.le_of_not_lt hk)
      rw [hle] at hfe
      exact (forget_miss1 hC hN ho k hfe).mono (no (-25) (by decide) (by unfold cfS; rw [if_neg e1, if_neg hk]))
theorem CSt.closeT1 (h : CSt w0 w c depth N K X) (hN : N ≤ 1000000) :
    Calls Try.prog 46 #[.pointer (some ⟨c, 0, none⟩), .int .i64 1] w fun x w' => ∃ vh vc, x = .returned (.tuple #[vh, vc, .int .i64 (clS K 1)]) ∧ Nums vh (clH K 1) w' ∧ Nums vc (clW K 1) w' ∧ CSt w0 w' c depth N (clK K 1) X ∧ Kp X w w' := by
  have hst := h
  obtain ⟨S, V, hC, rfl, ht, hf0, hx⟩ := h
  cases ho : (S 1).op with
  | false =>
    have e1 : (planeOf S 1).op = false := ho
    unfold clS clH clW clK
    rw [if_pos e1, if_pos e1, if_pos e1, if_pos e1]
    exact (close_shut hC (e := 1) (by omega) ho).mono (fun x w' h => ⟨_, _, h.1, wrow_nil _ _ _, wrow_nil _ _ _, hst.kp h.2 (Nat.le_refl _)⟩)
  | true =>
    have e1 : ¬ (planeOf S 1).op = false := by show ¬ (S 1).op = false; rw [ho]; decide
    unfold clS clH clW clK
    rw [if_neg e1, if_neg e1, if_neg e1, if_neg e1]
    refine (close_open1 hC hN ho).mono ?_
    rintro x w' ⟨vh, vc, rfl, h1, h2, h3⟩
    refine ⟨vh, vc, rfl, ?_, ?_, cst_made ht hf0 hx h3⟩
    · have : (planeOf S 1).q.flatMap (·.h) = hsOf (S 1).q := by
        show ((S 1).q.map (·.m)).flatMap (·.h) = _
        unfold hsOf
        rw [List.flatMap_map]
      rw [this]; exact h1
    · have : (planeOf S 1).ws.map (·.who) ++ (planeOf S (oth 1)).ws.map (·.who) = (waitL S 1).map (·.2.who) := by
        unfold waitL
        rw [List.map_append, List.map_map, List.map_map]
        rfl
      rw [this]; exact h2
theorem CSt.readT1 (h : CSt w0 w c depth N K X) (hN : N ≤ 1000000) (b i : Int) :
    Calls Try.prog 37 #[.pointer (some ⟨c, 0, none⟩), .int .i64 1, .int .i64 b, .int .i64 i] w fun x w' => ∃ q : QM, x = .returned (.tuple #[q.agg, .int .i64 (crS K 1 b i)]) ∧ q.m = crM K 1 b i ∧ q.Ok w' ∧ CSt w0 w' c depth N (crK K 1 b i) (fun k => X k ∨ q.F k) ∧ Kp X w w' ∧ ∀ k, q.F k → w0.heap.size ≤ k := by
  have hst := h
  obtain ⟨S, V, hC, rfl, ht, hf0, hx⟩ := h
  have no : ∀ u : Int, u ≠ 0 → u ≠ -15 → crS (planeOf S) 1 b i = u → ∀ (x : Ending) (w' : World), (x = .returned (.tuple #[.agg #[.int .i64 0, .slice none 0 0, .slice none 0 0], .int .i64 u]) ∧ Turn NoBlock w w') → ∃ q : QM, x = .returned (.tuple #[q.agg, .int .i64 (crS (planeOf S) 1 b i)]) ∧ q.m = crM (planeOf S) 1 b i ∧ q.Ok w' ∧ CSt w0 w' c depth N (crK (planeOf S) 1 b i) (fun k => X k ∨ q.F k) ∧ Kp X w w' ∧ ∀ k, q.F k → w0.heap.size ≤ k := by
    rintro u hu hu2 hs x w' ⟨rfl, t⟩
    have hM : crM (planeOf S) 1 b i = ⟨0, [], []⟩ := by unfold crM; rw [hs, if_neg hu, if_neg hu2]
    have hK : crK (planeOf S) 1 b i = planeOf S := by unfold crK; rw [hs, if_neg hu]
    rw [hM, hK, hs]
    exact ⟨⟨⟨0, [], []⟩, .slice none 0 0, .slice none 0 0⟩, rfl, rfl, zeroQ _, (hst.past t).fewer (fun k hk => hk.elim (fun h => h) (fun h => (zeroQ_F k h).elim)), Kp.of_past t, fun k hk => (zeroQ_F k hk).elim⟩
  cases ho : (S 1).op with
  | false => exact (read_shut hC (e := 1) (by omega) ho b i).mono (no (-24) (by decide) (by decide) (by unfold crS; rw [if_pos (show (planeOf S 1).op = false from ho)]))
  | true =>
    have e1 : ¬ (planeOf S 1).op = false := by show ¬ (S 1).op = false; rw [ho]; decide
    by_cases hn : b < 0 ∨ i < 0
    · exact (read_neg hC (e := 1) (by omega) ho b i hn).mono (no (-10) (by decide) (by decide) (by unfold crS; rw [if_neg e1, if_pos hn]))
    · have hcore : Calls Try.prog 37 #[.pointer (some ⟨c, 0, none⟩), .int .i64 1, .int .i64 b, .int .i64 i] w (RPost w c 5 (S 1) (V 1) (S 0).op b i) := by
        rcases (show b ≤ i ∨ i < b by omega) with h2 | h2
        · exact read_core1a hC hN b i (by omega) h2 ho
        · exact read_core1b hC hN b i (by omega) h2 ho
      refine hcore.mono (fun x w' hp => ?_)
      rcases hp with ⟨q, qs, hs, hh⟩ | ⟨hs, h3⟩
      · have hq' : (planeOf S 1).q = q.m :: qs.map (·.m) := by show (S 1).q.map (·.m) = _; rw [hs]; rfl
        rcases hh with ⟨hbig, r, hrm, rfl, hro, hrf, t⟩ | ⟨hbig, rfl, hdr⟩
        · have hb : b < q.m.d.length ∨ i < q.m.h.length := hbig
          have hs2 : crS (planeOf S) 1 b i = -15 := by unfold crS; rw [if_neg e1, if_neg hn, hq']; simp only [if_pos hb]
          have hM : crM (planeOf S) 1 b i = q.m.blank := by unfold crM; rw [hs2, if_neg (by decide), if_pos rfl, hq']
          have hK : crK (planeOf S) 1 b i = planeOf S := by unfold crK; rw [hs2, if_neg (by decide)]
          rw [hs2, hM, hK]
          refine ⟨r, rfl, hrm, hro, ⟨S, V, hC.past t, rfl, ht.trans t (fun _ h => .inl h), hf0, fun k hk => ?_⟩, Kp.of_past t, fun k hk => by have := hrf k hk; have := ht.size; omega⟩
          rcases hk with hk | hk
          · exact ⟨Nat.lt_of_lt_of_le (hx k hk).1 t.size, (hx k hk).2⟩
          · exact ⟨hro.lt hk, fun hh => by have := hC.lt hh; have := hrf k hk; omega⟩
        · have hb : ¬ (b < q.m.d.length ∨ i < q.m.h.length) := hbig
          have hs2 : crS (planeOf S) 1 b i = 0 := by unfold crS; rw [if_neg e1, if_neg hn, hq']; simp only [if_neg hb]
          have hM : crM (planeOf S) 1 b i = q.m := by unfold crM; rw [hs2, if_pos rfl, hq']
          have hK : crK (planeOf S) 1 b i = updN (planeOf S) 1 ⟨(planeOf S 1).op, qs.map (·.m), (planeOf S 1).ws⟩ := by unfold crK; rw [hs2, if_pos rfl, hq']; rfl
          rw [hs2, hM, hK]
          obtain ⟨S', V', hmm, hqo, hqf⟩ := made_drop hC (e := 1) (by omega) ho hdr
          refine ⟨q, rfl, rfl, hqo, ⟨S', V', hmm.1, hmm.2.1, ht.trans hmm.2.2.1 (fun k hk => .inr (hf0 k hk)), fun k hk => ?_, fun k hk => ?_⟩, ⟨_, hmm.2.2.1, fun k hk => (hx k hk).2⟩, fun k hk => hf0 k (hqf k hk).1⟩
          · rcases hmm.2.2.2 k hk with h | h
            · exact hf0 k h
            · have := ht.size; omega
          · rcases hk with hk | hk
            · refine ⟨Nat.lt_of_lt_of_le (hx k hk).1 hmm.2.2.1.size, fun hh => ?_⟩
              rcases hmm.2.2.2 k hh with h | h
              · exact (hx k hk).2 h
              · have := (hx k hk).1; omega
            · exact ⟨hqo.lt hk, (hqf k hk).2⟩
      · have hq' : (planeOf S 1).q = [] := by show (S 1).q.map (·.m) = _; rw [hs]; rfl
        refine no _ ?_ ?_ (by unfold crS; rw [if_neg e1, if_neg hn, hq']; rfl) x w' h3
        · split <;> decide
        · split <;> decide
end
end Go.Proofs.Ytcbphfpfdfgehaa
