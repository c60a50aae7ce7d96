/-
  Up from a task to the root, round by round. Conditions: the tree lies in memory.
-/
import Derived.Test.YtabakjimlndhcaaTkRange
import Derived.OwnWalkIn
import Derived.TacticsInMore
import Derived.LoopNIn
import Derived.LoopIn
import Derived.OrdersIn
import Derived.Sort.QuietIn
import Derived.Deep.DeepCutAuto
import Derived.RegionIn
import Derived.Stop.RegionWithIn
import Derived.BigRegionIn
namespace Go.Proofs.Ytabakjimlndhcaa
open Go.ChangeShapes Go.WideShapes Go.ChangeAt Go.RowKit Go.Shelf

attribute [local go_sem] Oper.semAt_some

/-- A way up: each stands below the next, the last below nothing. -/
structure Way (n : Nat) (T : Nat → Tk) (ch : List Nat) : Prop where
  lt : ∀ q, q ∈ ch → q < n
  next : ∀ (j q r : Nat), ch[j]? = some q → ch[j + 1]? = some r → (T q).par = (r : Int) + 1
  last : ∀ (j q : Nat), ch[j]? = some q → ch[j + 1]? = none → (T q).par = 0
theorem chain_head {n p : Nat} {T : Nat → Tk} (hd : DOK n T) (hp : p < n) : (chain T p)[0]? = some p := by rw [chain_eq hd hp]; rfl
theorem chain_way {n : Nat} {T : Nat → Tk} (hd : DOK n T) : ∀ (m p : Nat), p < n → p < m → Way n T (chain T p)
  | 0, _, _, h => absurd h (Nat.not_lt_zero _)
  | m + 1, p, hp, hm => by
    rw [chain_eq hd hp]
    by_cases h0 : (T p).par = 0
    · rw [if_pos h0]
      refine ⟨fun q hq => by rw [List.mem_singleton] at hq; omega, fun j q r h1 h2 => ?_, fun j q h1 _ => ?_⟩
      · simp at h2
      · have : j < 1 := (List.getElem?_eq_some_iff.1 h1).1
        obtain rfl : j = 0 := by omega
        simp at h1
        subst h1
        exact h0
    · rw [if_neg h0]
      have hpl := par_lt hd hp h0
      have ih := chain_way hd m ((T p).par.toNat - 1) (by omega) (by omega)
      have hh := chain_head hd (show (T p).par.toNat - 1 < n by omega)
      have hpar := hd.par p hp
      refine ⟨fun q hq => ?_, fun j q r h1 h2 => ?_, fun j q h1 h2 => ?_⟩
      · rcases List.mem_cons.1 hq with rfl | hq
        · exact hp
        · exact ih.lt q hq
      · cases j with
        | zero =>
          simp at h1 h2
          subst h1
          rw [List.getElem?_eq_getElem (List.getElem?_eq_some_iff.1 hh).1] at hh
          rw [(List.getElem?_eq_some_iff.1 h2).2.symm.trans (by simpa using hh)]
          omega
        | succ j =>
          simp only [List.getElem?_cons_succ] at h1 h2
          exact ih.next j q r h1 h2
      · cases j with
        | zero =>
          simp only [List.getElem?_cons_succ] at h2
          rw [hh] at h2
          cases h2
        | succ j =>
          simp only [List.getElem?_cons_succ] at h1 h2
          exact ih.last j q h1 h2
/-- The number that is looked at behind the first j. -/
def idA (T : Nat → Tk) (id : Int) (ch : List Nat) : Nat → Int
  | 0 => id
  | j + 1 => ((ch[j]?).map (fun q => (T q).par)).getD 0
theorem idA_succ {T : Nat → Tk} {id : Int} {ch : List Nat} {j q : Nat} (h : ch[j]? = some q) : idA T id ch (j + 1) = (T q).par := by
  show ((ch[j]?).map (fun q => (T q).par)).getD 0 = _
  rw [h]
  rfl
structure RSee (Ba Bb c n : Nat) (sv : Value) (B : Nat → Nat) (T : Nat → Tk) (ch : List Nat) (W : World) : Prop where
  fm : FMem W c n sv B
  par : ∀ q, q ∈ ch → W.cell? ⟨B q, 1, none⟩ = some (.int .i64 (T q).par)
  ne : ∀ q, q ∈ ch → B q ≠ Bb
  ba : W.heap[Ba]? = some (.cells #[tp c] 65 (0, 0))
  bb : ∃ v, W.heap[Bb]? = some (.cells #[v] 3 (0, 0))
  cb : c ≠ Bb
  ab : Ba ≠ Bb
theorem own_turn {A : Type} {B : Nat} {J : A → World → Prop} (h : OwnFrom B J) {s : A} {X Y : World} (hs : J s X) (t : Turn NoBlock X Y) : J s Y :=
  h s X Y none hs ⟨t.os, t.tape, t.output, t.size, fun k hk _ => t.block k hk (fun h => h)⟩ (fun r e => by cases e)
theorem round_wide {m m' : Nat} {l : Nat} {f : FuncId} {tmps : Array Value} {assign body : Code} {w : World} {R : Ending → World → Prop} (h : RoundIn Fence.wide m Try.prog l f tmps assign body w R) : RoundIn Fence.wide m' Try.prog l f tmps assign body w R :=
  ⟨h.1, fun c cs _ => h.2 c cs (fun d hd => by cases hd)⟩
/-- What find tells of the number that is looked at behind the first j. -/
def atX (B : Nat → Nat) (ch : List Nat) (j : Nat) : Value := ((ch[j]?).map (fun q => tp (B q))).getD (.pointer none)
theorem find_way {n c : Nat} {sv : Value} {B : Nat → Nat} {T : Nat → Tk} {ch : List Nat} {W : World} (h : FMem W c n sv B) (hn : n ≤ 1000000) (hw : Way n T ch) (id : Int) (hid : ∀ q : Nat, ch[0]? = some q → id = (q : Int) + 1) (hno : ch = [] → inN n id = false) (j : Nat) (hj : j ≤ ch.length) :
    Calls Try.prog 70 #[tp c, .int .i64 (idA T id ch j)] W fun x w' => x = .returned (.tuple #[atX B ch j, .bool (decide (j < ch.length))]) ∧ W = w' := by
  by_cases hlt : j < ch.length
  · have hq := List.getElem?_eq_getElem hlt
    have hid' : idA T id ch j = ((ch[j]'hlt : Nat) : Int) + 1 := by
      cases j with
      | zero => exact hid _ hq
      | succ j =>
        have hj1 := List.getElem?_eq_getElem (show j < ch.length by omega)
        rw [idA_succ hj1]
        exact hw.next j _ _ hj1 hq
    have hlq := hw.lt _ (List.mem_of_getElem? hq)
    rw [hid']
    unfold atX
    rw [hq]
    rw [show decide (j < ch.length) = true by simpa using hlt]
    exact find_yes h hn hlq
  · have hje : j = ch.length := by omega
    have hno' : inN n (idA T id ch j) = false := by
      cases j with
      | zero => exact hno (List.eq_nil_of_length_eq_zero hje.symm)
      | succ j =>
        have hj1 := List.getElem?_eq_getElem (show j < ch.length by omega)
        have h2 : ch[j + 1]? = none := List.getElem?_eq_none (by omega)
        rw [idA_succ hj1, hw.last j _ hj1 h2]
        simp [inN]
    unfold atX
    rw [List.getElem?_eq_none (by omega), show decide (j < ch.length) = false by simpa using hlt]
    exact find_no h _ hno'
set_option maxRecDepth 100000 in
set_option maxHeartbeats 4000000 in
theorem up_gives (Ba Bb c n : Nat) (sv : Value) (B : Nat → Nat) (T : Nat → Tk) (ch : List Nat) (id : Int) (hn : n ≤ 1000000) (hw : Way n T ch) (hid : ∀ q : Nat, ch[0]? = some q → id = (q : Int) + 1) (hno : ch = [] → inN n id = false) :
    GivesB Bb 90 #[.pointer (some ⟨Ba, 0, none⟩), .pointer (some ⟨Bb, 0, none⟩)] (fun q : Nat => #[.int .i64 ((q : Int) + 1)]) (fun pre q => ch[pre.length]? = some q) (fun xs => xs.length = ch.length) (fun _ => True) (fun _ W => RSee Ba Bb c n sv B T ch W) (fun W => W.cell? ⟨Bb, 0, none⟩ = some (.int .i64 id)) := by
  intro l J Jx W hJ hJx hJR hJB hBs hR0 hY h0
  have hQ := hJR [] W h0
  have b0 : W.cell? ⟨Ba, 0, none⟩ = some (.pointer (some ⟨c, 0, none⟩)) := cell_at hQ.ba 0
  have b1 := hR0
  have C0 := Lib.hid (find_way hQ.fm hn hw id hid hno 0 (Nat.zero_le _))
  have HJ := Lib.hid hJ
  have HR := Lib.hid hJR
  have HB := Lib.hid hJB
  have HY := Lib.hid hY
  have H0 := Lib.hid h0
  have HW := Lib.hid hw
  have HI := Lib.hid (And.intro hid hno)
  clear hQ hJ hJx hJR hJB hY h0 hBs hR0 hw hid hno
  obtain ⟨N, hN⟩ : ∃ N, ch.length = N := ⟨_, rfl⟩
  rw [hN, show idA T id ch 0 = id from rfl] at C0
  rw [hN]
  have HN := Lib.hid hN
  clear hN
  unfold tp at C0
  refine (callsIn_wide (n := 6)).1 ?_
  refine callsIn_of_wp (F := Fence.wide) Try.func90 rfl trivial ?_ rfl
  simp only [Try.ntmps90, List.size_toArray, List.length_cons, List.length_nil, Nat.reduceAdd, Nat.reduceSub, Array.replicate_succ, Array.replicate_zero, List.push_toArray, List.append_toArray, List.nil_append, List.cons_append]
  gi_wp2_with (refine ⟨trivial, ?_⟩; gi_at_call 70; (with_reducible refine (callsIn_wide.2 C0.out).mono ?_); rintro e w' ⟨rfl, rfl⟩)
  gi_loopg [4, 5] N (fun z s4 s5 wr => ∃ (j : Nat) (pre : List Nat), j ≤ N ∧ z = N - j ∧ s4 = atX B ch j ∧ s5 = .bool (decide (j < N)) ∧ wr.cell? ⟨Bb, 0, none⟩ = some (.int .i64 (idA T id ch j)) ∧ Hid (pre.length = j) ∧ Hid (J pre wr ∧ W.heap.size ≤ wr.heap.size))
  case atStart => exact ⟨0, [], by omega, by omega, rfl, rfl, b1, Lib.hid rfl, Lib.hid ⟨H0.out, Nat.le_refl _⟩⟩
  case round =>
    clear b0 b1 C0
    obtain ⟨j, pre, hj, hg, rfl, rfl, hcell, HP, HI1⟩ := hrel
    have hQ := HR.out _ wr HI1.out.1
    by_cases hlt : j < N
    · obtain ⟨q, hq⟩ : ∃ q, ch[j]? = some q := ⟨_, List.getElem?_eq_getElem (by rw [HN.out]; exact hlt)⟩
      have hx : atX B ch j = .pointer (some ⟨B q, 0, none⟩) := by unfold atX; rw [hq]; rfl
      have hdt : decide (j < N) = true := by simpa using hlt
      have hia : idA T id ch j = (q : Int) + 1 := by
        cases j with
        | zero => exact HI.out.1 _ hq
        | succ j =>
          obtain ⟨r, hr⟩ : ∃ r, ch[j]? = some r := ⟨_, List.getElem?_eq_getElem (by rw [HN.out]; omega)⟩
          rw [idA_succ hr]
          exact HW.out.next j _ _ hr hq
      obtain ⟨fn, tmps, assign, body, hyy, hR⟩ := HY.out pre q wr HI1.out.1 (by show ch[pre.length]? = some q; rw [HP.out]; exact hq) HI1.out.2
      rw [hx, hdt]
      rw [hia] at hcell
      have HPL := Lib.hid (show (pre ++ [q]).length = j + 1 by rw [List.length_append, HP.out]; rfl)
      have HQ := Lib.hid hq
      clear hQ hx hdt hia hq
      gi_wp2
      refine (round_wide hR).mono ?_
      rintro e W3 ⟨⟨rfl, hJ3⟩ | ⟨rfl, hJx3⟩, hk3, hb3⟩
      · have hQ3 := HR.out _ W3 hJ3
        have c1 := hQ3.par q (List.mem_of_getElem? HQ.out)
        obtain ⟨v3, hv3⟩ := hQ3.bb
        have g3 := free_at hv3 0
        have o3 : W3.cell? ⟨Bb, 0, none⟩ = some v3 := cell_at hv3 0
        obtain ⟨W4, hW4⟩ : ∃ W4, W3.setCell ⟨Bb, 0, none⟩ (.int .i64 (T q).par) = W4 := ⟨_, rfl⟩
        have hJ4 : J (pre ++ [q]) W4 := by rw [← hW4]; exact HB.out _ _ _ hJ3
        have hQ4 := HR.out _ W4 hJ4
        have hia' : idA T id ch (j + 1) = (T q).par := idA_succ HQ.out
        have C4 := Lib.hid (find_way hQ4.fm hn HW.out id HI.out.1 HI.out.2 (j + 1) (by rw [HN.out]; omega))
        rw [HN.out, hia'] at C4
        unfold tp at C4
        have z0 : W4.cell? ⟨Ba, 0, none⟩ = some (.pointer (some ⟨c, 0, none⟩)) := cell_at hQ4.ba 0
        have z1 : W4.cell? ⟨Bb, 0, none⟩ = some (.int .i64 (T q).par) := by
          have := set_at hv3 0 (.int .i64 (T q).par)
          rw [hW4] at this
          simpa using cell_at this 0
        have HJ4 := Lib.hid (show J (pre ++ [q]) W4 ∧ W.heap.size ≤ W4.heap.size from ⟨hJ4, by
          have h1 := HI1.out.2
          have h2 := hk3.size
          have h3 : W4.heap.size = W3.heap.size := by rw [← hW4]; exact World.size_setCell _ _ _
          omega⟩)
        have HIA := Lib.hid hia'
        clear hk3 hJ3 hJ4 hQ3 hQ4 hv3 hb3 hia' hcell
        generalize (T q).par = pq at *
        gi_wp2_with (refine ⟨trivial, ?_⟩; gi_at_call 70; (with_reducible refine (callsIn_wide.2 C4.out).mono ?_); rintro e w' ⟨rfl, rfl⟩)
        gi_roundg (N - (j + 1))
        case measure => omega
        case rel => exact ⟨j + 1, _, by omega, by omega, rfl, rfl, by rw [HIA.out]; exact z1, HPL, HJ4⟩
      · gi_wp2
        refine bodyPost_ret (results_none rfl _ _ _) rfl ?_
        exact ⟨⟨_, rfl⟩, .inr ⟨_, trivial, hJx3⟩⟩
    · obtain rfl : j = N := by omega
      have hdf : decide (j < j) = false := by simp
      rw [hdf]
      clear hQ hcell
      gi_wp2
      go_end0
      exact ⟨⟨_, rfl⟩, .inl ⟨pre, HP.out, HI1.out.1⟩⟩
end Go.Proofs.Ytabakjimlndhcaa
