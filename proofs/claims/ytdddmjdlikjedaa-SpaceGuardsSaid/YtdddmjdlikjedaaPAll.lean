/-
  Texts that stand one behind the other, in one.
-/
import Derived.Test.YtdddmjdlikjedaaPHeap
import Derived.Test.YtdddmjdlikjedaaPVal
import Derived.Deep.LoopGhost
import Derived.Deep.RegionLaw
import Derived.Deep.AppendLies
import Derived.BigQuiet
import Derived.RegionTactic
import Derived.ChangeAlike
import Derived.Test.YtdddmjdlikjedaaPThings
import Derived.Deep.MidRow
import Derived.Great.BuildSlice
import Derived.Deep.DeepCutAuto
import Derived.Laws.IdiomCopy
import Derived.Laws.BytesArg
import Derived.Laws.IdiomStrings
import Derived.Deep.RegionHeld3
/-
  A heap of numbers as plain lists: what one step up and one step down keep. No run of the program in this text.
-/
namespace Go.Proofs.Ytdddmjdlikjedaa

/-- Two places changed. -/
def sw (f : Nat → Nat) (i j k : Nat) : Nat := if k = j then f i else if k = i then f j else f k
def HeapN (f : Nat → Nat) (n : Nat) : Prop := ∀ c, 0 < c → c < n → f ((c - 1) / 2) ≤ f c
structure UpInv (f : Nat → Nat) (n j : Nat) : Prop where
  rest : ∀ c, 0 < c → c < n → c ≠ j → f ((c - 1) / 2) ≤ f c
  over : ∀ c, 0 < c → c < n → (c - 1) / 2 = j → 0 < j → f ((j - 1) / 2) ≤ f c
structure DownInv (f : Nat → Nat) (n i : Nat) : Prop where
  rest : ∀ c, 0 < c → c < n → (c - 1) / 2 ≠ i → f ((c - 1) / 2) ≤ f c
  over : ∀ c, 0 < c → c < n → (c - 1) / 2 = i → 0 < i → f ((i - 1) / 2) ≤ f c

theorem sw_i (f : Nat → Nat) {i j : Nat} (h : i ≠ j) : sw f i j i = f j := by unfold sw; rw [if_neg h, if_pos rfl]
theorem sw_j (f : Nat → Nat) (i j : Nat) : sw f i j j = f i := by unfold sw; rw [if_pos rfl]
theorem sw_k (f : Nat → Nat) {i j k : Nat} (h : k ≠ i) (h' : k ≠ j) : sw f i j k = f k := by unfold sw; rw [if_neg h', if_neg h]

theorem up_end {f : Nat → Nat} {n j : Nat} (h : UpInv f n j) (he : j = 0 ∨ f ((j - 1) / 2) ≤ f j) : HeapN f n := by
  intro c h0 hc
  by_cases e : c = j
  · subst e
    rcases he with he | he
    · omega
    · exact he
  · exact h.rest c h0 hc e
theorem up_step {f : Nat → Nat} {n j p : Nat} (h : UpInv f n j) (hj : 0 < j) (hn : j < n) (hp : (j - 1) / 2 = p) (hl : f j < f p) : UpInv (sw f p j) n p := by
  have hpj : p ≠ j := by omega
  constructor
  · intro c h0 hc hcp
    by_cases e : c = j
    · subst e
      rw [hp, sw_i f hpj, sw_j]
      omega
    · rw [sw_k f (k := c) hcp e]
      by_cases q1 : (c - 1) / 2 = j
      · rw [q1, sw_j]
        have := h.over c h0 hc q1 hj
        rw [hp] at this
        exact this
      · by_cases q2 : (c - 1) / 2 = p
        · rw [q2, sw_i f hpj]
          have := h.rest c h0 hc e
          rw [q2] at this
          omega
        · rw [sw_k f q2 q1]
          exact h.rest c h0 hc e
  · intro c h0 hc hcp hp0
    rw [sw_k f (k := (p - 1) / 2) (by omega) (by omega)]
    have h1 := h.rest p hp0 (by omega) hpj
    by_cases e : c = j
    · subst e
      rw [sw_j]
      exact h1
    · rw [sw_k f (k := c) (by omega) e]
      have := h.rest c h0 hc e
      rw [hcp] at this
      omega
theorem down_end {f : Nat → Nat} {n i : Nat} (h : DownInv f n i) (he : n ≤ 2 * i + 1) : HeapN f n := by
  intro c h0 hc
  exact h.rest c h0 hc (by omega)
theorem down_stop {f : Nat → Nat} {n i j : Nat} (h : DownInv f n i) (hm : ∀ c, 0 < c → c < n → (c - 1) / 2 = i → f j ≤ f c) (hl : f i ≤ f j) : HeapN f n := by
  intro c h0 hc
  by_cases e : (c - 1) / 2 = i
  · have := hm c h0 hc e
    rw [e]
    omega
  · exact h.rest c h0 hc e
theorem down_step {f : Nat → Nat} {n i j : Nat} (h : DownInv f n i) (hj : j < n) (hp : (j - 1) / 2 = i) (hj0 : 0 < j) (hm : ∀ c, 0 < c → c < n → (c - 1) / 2 = i → f j ≤ f c) (hl : f j < f i) : DownInv (sw f i j) n j := by
  have hij : i ≠ j := by omega
  constructor
  · intro c h0 hc hcj
    by_cases q1 : (c - 1) / 2 = i
    · rw [q1, sw_i f hij]
      by_cases e : c = j
      · subst e; rw [sw_j]; omega
      · rw [sw_k f (k := c) (by omega) e]
        exact hm c h0 hc q1
    · rw [sw_k f q1 hcj]
      by_cases e : c = i
      · subst e
        rw [sw_i f hij]
        exact h.over j hj0 hj hp h0
      · have e2 : c ≠ j := by intro e; subst e; exact q1 hp
        rw [sw_k f (k := c) e e2]
        exact h.rest c h0 hc q1
  · intro c h0 hc hcj _
    rw [hp, sw_i f hij, sw_k f (k := c) (by omega) (by omega)]
    have := h.rest c h0 hc (by omega)
    rw [hcj] at this
    exact this

/-- The list with two places changed. -/
def swl (l : List Nat) (i j : Nat) : List Nat := (l.set i (l.getD j 0)).set j (l.getD i 0)
theorem swl_len (l : List Nat) (i j : Nat) : (swl l i j).length = l.length := by simp [swl]
theorem swl_at (l : List Nat) (i j k : Nat) (hi : i < l.length) (hj : j < l.length) : (swl l i j).getD k 0 = sw (fun k => l.getD k 0) i j k := by
  unfold swl sw
  simp only [List.getD_eq_getElem?_getD, List.getElem?_set, List.length_set]
  by_cases h1 : k = j
  · subst h1; simp [hj]
  · have h1' : ¬ j = k := fun e => h1 e.symm
    by_cases h2 : k = i
    · subst h2; simp [h1, h1', hi]
    · have h2' : ¬ i = k := fun e => h2 e.symm
      simp [h1, h1', h2, h2']
theorem swl_fun (l : List Nat) (i j : Nat) (hi : i < l.length) (hj : j < l.length) : (fun k => (swl l i j).getD k 0) = sw (fun k => l.getD k 0) i j := funext fun k => swl_at l i j k hi hj
theorem swl_perm (l : List Nat) (i j : Nat) (hi : i < l.length) (hj : j < l.length) : (swl l i j).Perm l := by
  have h := List.set_set_perm hi hj
  have e1 : l.getD j 0 = l[j] := by simp [List.getD, hj]
  have e2 : l.getD i 0 = l[i] := by simp [List.getD, hi]
  unfold swl
  rw [e1, e2]
  exact h

/-- A list whose lowest number stands first. -/
def IsHeap (l : List Nat) : Prop := HeapN (fun k => l.getD k 0) l.length
theorem heap_min {f : Nat → Nat} {n : Nat} (h : HeapN f n) : ∀ c, c < n → f 0 ≤ f c := by
  intro c
  induction c using Nat.strongRecOn with
  | ind c ih =>
    intro hc
    by_cases h0 : c = 0
    · subst h0; exact Nat.le_refl _
    · have h1 := h c (by omega) hc
      have h2 := ih ((c - 1) / 2) (by omega) (by omega)
      omega
theorem isHeap_nil : IsHeap [] := fun c _ hc => by simp at hc
/-- Before a step up from the end. -/
theorem up_begin {l : List Nat} (h : IsHeap l) (x : Nat) : UpInv (fun k => (l ++ [x]).getD k 0) (l.length + 1) l.length := by
  have e : ∀ k, k < l.length → (l ++ [x]).getD k 0 = l.getD k 0 := fun k hk => by simp [List.getD, List.getElem?_append_left hk]
  constructor
  · intro c h0 hc hne
    show (l ++ [x]).getD _ 0 ≤ (l ++ [x]).getD _ 0
    rw [e c (by omega), e _ (by omega)]
    exact h c h0 (by omega)
  · intro c h0 hc h1 h2
    omega
/-- The first changed with the last: before a step down. -/
theorem down_begin {l : List Nat} (h : IsHeap l) (n : Nat) (hn : l.length = n + 1) : DownInv (fun k => (swl l 0 n).getD k 0) n 0 := by
  rw [swl_fun l 0 n (by omega) (by omega)]
  constructor
  · intro c h0 hc hne
    rw [sw_k _ (k := c) (by omega) (by omega), sw_k _ (by omega) (by omega)]
    exact h c h0 (by omega)
  · intro c h0 hc h1 h2
    omega
end Go.Proofs.Ytdddmjdlikjedaa

/-
  The freed places as a heap in memory: what Len, Less, Swap, Push, Pop of 'lowest' and the library's up and down make of it. Conditions: the slice is the call's own.
-/
namespace Go.Proofs.Ytdddmjdlikjedaa
open Go.ChangeShapes Go.WideShapes Go.ChangeAt Go.RowKit

def natsOf (l : List Nat) : List Value := l.map fun (k : Nat) => .int .i64 (k : Int)
theorem natsOf_len (l : List Nat) : (natsOf l).length = l.length := by simp [natsOf]
theorem natsOf_at (l : List Nat) (i : Nat) (h : i < l.length) : (natsOf l)[i]? = some (.int .i64 (l.getD i 0 : Nat)) := by
  simp [natsOf, List.getD, h]
theorem natsOf_set (l : List Nat) (i x : Nat) : natsOf (l.set i x) = (natsOf l).set i (.int .i64 (x : Nat)) := by
  simp [natsOf, List.map_set]

/-- The slice at the cell c is the list l. -/
structure LowW (w : World) (c : Addr) (g n cap : Nat) (l : List Nat) : Prop where
  cell : w.cell? c = some (.slice (some ⟨g, 0, none⟩) n cap)
  free : w.frozen? c = false
  own : w.ownsRow 0 3 1 (.slice (some ⟨g, 0, none⟩) n cap) n (natsOf l)
  ne : c.block ≠ g

theorem LowW.len {w : World} {c : Addr} {g n cap : Nat} {l : List Nat} (h : LowW w c g n cap l) : l.length = n := by
  have := h.own.1
  rw [natsOf_len] at this
  omega
theorem LowW.at' {w : World} {c : Addr} {g n cap : Nat} {l : List Nat} (h : LowW w c g n cap l) (i : Nat) (hi : i < n) : w.cell? ⟨g, i, none⟩ = some (.int .i64 (l.getD i 0 : Nat)) := by
  have := h.len
  exact (h.own.cellAt i (by omega)).trans (natsOf_at l i (by omega))
theorem LowW.past {w w' : World} {c : Addr} {g n cap : Nat} {l : List Nat} (h : LowW w c g n cap l) (ht : Turn NoBlock w w') (hf : w'.frozen? c = w.frozen? c) : LowW w' c g n cap l :=
  ⟨ht.cell h.cell (fun h => h), hf.trans h.free, ht.own h.own (fun _ _ h => h), h.ne⟩
theorem LowW.drewN {w : World} {c : Addr} {g n cap : Nat} {l : List Nat} (h : LowW w c g n cap l) (m : Nat) : LowW (w.drewN m) c g n cap l := ⟨h.cell, h.free, h.own, h.ne⟩
theorem LowW.drew {w : World} {c : Addr} {g n cap : Nat} {l : List Nat} (h : LowW w c g n cap l) : LowW w.drew c g n cap l := ⟨h.cell, h.free, h.own, h.ne⟩
theorem LowW.swap {w : World} {c : Addr} {g n cap : Nat} {l : List Nat} (h : LowW w c g n cap l) (i j : Nat) :
    LowW ((w.setCell ⟨g, i, none⟩ (.int .i64 (l.getD j 0 : Nat))).setCell ⟨g, j, none⟩ (.int .i64 (l.getD i 0 : Nat))) c g n cap (swl l i j) := by
  have hne := h.ne
  have h1 : ∀ (W : World) (k : Nat) (v : Value), (W.setCell ⟨g, k, none⟩ v).cell? c = W.cell? c := fun W k v => World.cell?_setCell_other _ _ _ _ (fun e => hne (by rw [← e]))
  refine ⟨?_, ?_, ?_, h.ne⟩
  · rw [h1, h1]; exact h.cell
  · rw [World.frozen?_setCell, World.frozen?_setCell]; exact h.free
  · have s1 := (h.own.stored i (.int .i64 (l.getD j 0 : Nat))).1
    have s2 := (s1.stored j (.int .i64 (l.getD i 0 : Nat))).1
    rw [← natsOf_set, ← natsOf_set] at s2
    exact s2

theorem m_len0 (a : Addr) (w : World) : Sem.run Try.prog (method 309 175 (.pointer (some a)) "Len") w = Sem.run Try.prog (do let v ← loadVar 128 a; pure (153, v)) w := by kernel_rfl
theorem m_less0 (a : Addr) (w : World) : Sem.run Try.prog (method 309 175 (.pointer (some a)) "Less") w = Sem.run Try.prog (do let v ← loadVar 128 a; pure (154, v)) w := by kernel_rfl
theorem m_swap0 (a : Addr) (w : World) : Sem.run Try.prog (method 309 175 (.pointer (some a)) "Swap") w = Sem.run Try.prog (do let v ← loadVar 128 a; pure (155, v)) w := by kernel_rfl
theorem m_pop (a : Addr) (w : World) : Sem.run Try.prog (method 309 175 (.pointer (some a)) "Pop") w = .ok (156, .pointer (some a)) w := by kernel_rfl
theorem m_push (a : Addr) (w : World) : Sem.run Try.prog (method 309 175 (.pointer (some a)) "Push") w = .ok (157, .pointer (some a)) w := by kernel_rfl
theorem m_len (a : Addr) (v : Value) (w : World) (h : w.cell? a = some v) : Sem.run Try.prog (method 309 175 (.pointer (some a)) "Len") w = .ok (153, v) w := by
  rw [m_len0]; simp [loadVar, h]
theorem m_less (a : Addr) (v : Value) (w : World) (h : w.cell? a = some v) : Sem.run Try.prog (method 309 175 (.pointer (some a)) "Less") w = .ok (154, v) w := by
  rw [m_less0]; simp [loadVar, h]
theorem m_swap (a : Addr) (v : Value) (w : World) (h : w.cell? a = some v) : Sem.run Try.prog (method 309 175 (.pointer (some a)) "Swap") w = .ok (155, v) w := by
  rw [m_swap0]; simp [loadVar, h]

theorem len_any (p : Option Addr) (n c : Nat) (w : World) :
    Calls Try.prog 153 #[.slice p n c] w fun e w' => e = .returned (.int .i64 n) ∧ w = w' := by
  go_enter Try.func153, Try.ntmps153
  go_wp2
  go_ret
  exact ⟨rfl, rfl⟩
theorem less_any {w : World} {c : Addr} {g n cap : Nat} {l : List Nat} (h : LowW w c g n cap l) (i j : Nat) (hi : i < n) (hj : j < n) :
    Calls Try.prog 154 #[.slice (some ⟨g, 0, none⟩) n cap, .int .i64 i, .int .i64 j] w fun e w' => e = .returned (.bool (decide (l.getD i 0 < l.getD j 0))) ∧ ∃ m, w' = w.drewN m := by
  have c1 := h.at' i hi
  have c2 := h.at' j hj
  have hd : decide ((l.getD i 0 : Int) < (l.getD j 0 : Int)) = decide (l.getD i 0 < l.getD j 0) := by
    rw [decide_eq_decide]; omega
  have HD := Lib.hid hd
  generalize ((l.getD i 0 : Nat) : Int) = x at *
  generalize ((l.getD j 0 : Nat) : Int) = y at *
  clear h hd
  go_enter Try.func154, Try.ntmps154
  go_wp2_with fail
  go_quiet (fail)
  go_wp2
  go_ret
  exact ⟨ret_bool HD.out, _, rfl⟩
theorem swap_any {w : World} {c : Addr} {g n cap : Nat} {l : List Nat} (h : LowW w c g n cap l) (i j : Nat) (hi : i < n) (hj : j < n) :
    Calls Try.prog 155 #[.slice (some ⟨g, 0, none⟩) n cap, .int .i64 i, .int .i64 j] w fun e w' => e = .returned (.tuple #[]) ∧ LowW w' c g n cap (swl l i j) ∧ Turn (fun k => k = g) w w' := by
  have c1 := h.at' i hi
  have c2 := h.at' j hj
  have f1 : w.frozen? ⟨g, i, none⟩ = false := h.own.frozenAt i
  have f2 : w.frozen? ⟨g, j, none⟩ = false := h.own.frozenAt j
  have hS := h.swap i j
  have hT : Turn (fun k => k = g) w ((w.setCell ⟨g, i, none⟩ (.int .i64 (l.getD j 0 : Nat))).setCell ⟨g, j, none⟩ (.int .i64 (l.getD i 0 : Nat))) :=
    ((Turn.refl (fun k => k = g) w).setCell (p := ⟨g, i, none⟩) (.inl rfl) _).setCell (p := ⟨g, j, none⟩) (.inl rfl) _
  generalize ((l.getD i 0 : Nat) : Int) = x at *
  generalize ((l.getD j 0 : Nat) : Int) = y at *
  obtain ⟨z, c3⟩ : ∃ z, (w.setCell ⟨g, i, none⟩ (.int .i64 y)).cell? ⟨g, j, none⟩ = some z := by
    by_cases e : i = j
    · subst e; exact ⟨_, World.cell?_setCell_same _ _ _ c1⟩
    · exact ⟨_, (World.cell?_setCell_other _ _ _ _ (fun e' => by simp at e')).trans c2⟩
  have HS := Lib.hid (And.intro hS hT)
  clear h hS hT
  go_enter Try.func155, Try.ntmps155
  go_region
  go_end0
  exact ⟨rfl, HS.out.1.drew, HS.out.2.drew⟩

set_option maxRecDepth 100000 in
set_option maxHeartbeats 1000000 in
/-- up(h, j) -/
theorem up_any {w : World} {c : Addr} {g n cap : Nat} {l : List Nat} (h : LowW w c g n cap l) (j : Nat) (hj : j < n) (hn : n ≤ 65537) (hu : UpInv (fun k => l.getD k 0) n j) :
    Calls Try.prog 135 #[.iface 175 (.pointer (some c)), .int .i64 j] w fun e w' => e = .returned (.tuple #[]) ∧ ∃ l', LowW w' c g n cap l' ∧ l'.Perm l ∧ IsHeap l' ∧ Turn (fun k => k = g) w w' := by
  have HL := Lib.hid h
  have HU := Lib.hid hu
  clear h hu
  go_enter Try.func135, Try.ntmps135
  go_wp2
  go_loopg [1] j (fun kx s wr => ∃ (i : Nat) (l' : List Nat), kx = i ∧ s = .int .i64 i ∧ i < n ∧ LowW wr c g n cap l' ∧ Hid (l'.Perm l ∧ UpInv (fun k => l'.getD k 0) n i ∧ Turn (fun k => k = g) w wr))
  case atStart => exact ⟨j, l, rfl, rfl, hj, HL.out, List.Perm.refl _, HU.out, Turn.refl _ _⟩
  case round =>
    obtain ⟨i, l', hkx, rfl, hi, hL, hP⟩ := hrel
    have hlen := hL.len
    by_cases h0 : i = 0
    · subst h0
      have HF : Hid (LowW wr c g n cap l' ∧ l'.Perm l ∧ IsHeap l' ∧ Turn (fun k => k = g) w wr) := ⟨hL, hP.out.1, by rw [IsHeap, hlen]; exact up_end hP.out.2.1 (.inl rfl), hP.out.2.2⟩
      clear hL hP
      go_wp2
      go_end0
      exact ⟨rfl, l', HF.out⟩
    · obtain ⟨p, hp⟩ : ∃ p : Nat, (i - 1) / 2 = p := ⟨_, rfl⟩
      have hq : ((i : Int) - 1).tdiv 2 = p := by rw [Int.tdiv_eq_ediv_of_nonneg (by omega)]; omega
      have hq' : ((i : Int) - 1) / 2 = p := by omega
      have hpi : ((p : Int) == (i : Int)) = false := by simp; omega
      have cl := hL.cell
      have ml := fun W h => m_less c (.slice (some ⟨g, 0, none⟩) n cap) W h
      have ms := fun W h => m_swap c (.slice (some ⟨g, 0, none⟩) n cap) W h
      have c1 := less_any hL i p hi (by omega)
      by_cases hlt : l'.getD i 0 < l'.getD p 0
      · rw [decide_eq_true hlt] at c1
        have HS : Hid (∀ m, Calls Try.prog 155 #[.slice (some ⟨g, 0, none⟩) n cap, .int .i64 p, .int .i64 i] (wr.drewN m) fun e w' => e = .returned (.tuple #[]) ∧ LowW w' c g n cap (swl l' p i) ∧ Turn (fun k => k = g) (wr.drewN m) w') := fun m => swap_any (hL.drewN m) p i (by omega) hi
        have HF : Hid ((swl l' p i).Perm l ∧ UpInv (fun k => (swl l' p i).getD k 0) n p) := ⟨(swl_perm l' p i (by omega) (by omega)).trans hP.out.1, by
          rw [swl_fun l' p i (by omega) (by omega)]
          exact up_step hP.out.2.1 (by omega) (by omega) hp hlt⟩
        clear hL hp
        go_wp2_with (first
          | (go_at_call 154; (with_reducible refine c1.mono ?_); rintro e w' ⟨rfl, m, rfl⟩)
          | (go_at_call 155; (with_reducible refine (HS.out _).mono ?_); rintro e w' ⟨rfl, hL2, hT2⟩))
        go_roundg p
        case measure => omega
        case rel => exact ⟨p, swl l' p i, rfl, rfl, by omega, hL2, HF.out.1, HF.out.2, (hP.out.2.2.drewN _).trans hT2 (fun _ h => .inl h)⟩
      · rw [decide_eq_false hlt] at c1
        have HF : Hid (∀ m, LowW (wr.drewN m) c g n cap l' ∧ l'.Perm l ∧ IsHeap l' ∧ Turn (fun k => k = g) w (wr.drewN m)) := fun m => ⟨hL.drewN m, hP.out.1, by rw [IsHeap, hlen]; exact up_end hP.out.2.1 (.inr (by rw [hp]; omega)), hP.out.2.2.drewN m⟩
        clear hL hP hp
        go_wp2_with (go_at_call 154; (with_reducible refine c1.mono ?_); rintro e w' ⟨rfl, m, rfl⟩)
        go_end0
        exact ⟨rfl, l', HF.out _⟩
end Go.Proofs.Ytdddmjdlikjedaa

/-
  One step after the other down the freed places' heap. Conditions: the slice is the call's own.
-/
namespace Go.Proofs.Ytdddmjdlikjedaa
open Go.ChangeShapes Go.WideShapes Go.ChangeAt Go.RowKit

set_option maxRecDepth 100000 in
set_option maxHeartbeats 4000000 in
/-- down(h, 0, n) -/
theorem down_any {w : World} {c : Addr} {g n cap : Nat} {l : List Nat} (h : LowW w c g (n + 1) cap l) (hn : n ≤ 65537) (hu : DownInv (fun k => l.getD k 0) n 0) :
    Calls Try.prog 134 #[.iface 175 (.pointer (some c)), .int .i64 0, .int .i64 n] w fun e w' => (∃ b, e = .returned (.bool b)) ∧
      ∃ l', LowW w' c g (n + 1) cap l' ∧ l'.Perm l ∧ HeapN (fun k => l'.getD k 0) n ∧ l'.getD n 0 = l.getD n 0 ∧ Turn (fun k => k = g) w w' := by
  have HL := Lib.hid h
  have HU := Lib.hid hu
  clear h hu
  go_enter Try.func134, Try.ntmps134
  go_wp2
  go_loopg [7] (n + 1) (fun kx s wr => ∃ (i : Nat) (l' : List Nat), n + 1 - i ≤ kx ∧ s = .int .i64 i ∧ i ≤ n ∧ LowW wr c g (n + 1) cap l' ∧ Hid (l'.Perm l ∧ DownInv (fun k => l'.getD k 0) n i ∧ l'.getD n 0 = l.getD n 0 ∧ Turn (fun k => k = g) w wr))
  case atStart => exact ⟨0, l, by omega, rfl, by omega, HL.out, List.Perm.refl _, HU.out, rfl, Turn.refl _ _⟩
  case round =>
    obtain ⟨i, l', hkx, rfl, hi, hL, hP⟩ := hrel
    have hlen := hL.len
    obtain ⟨a, ha⟩ : ∃ a : Nat, 2 * i + 1 = a := ⟨_, rfl⟩
    obtain ⟨b, hb⟩ : ∃ b : Nat, a + 1 = b := ⟨_, rfl⟩
    have e1 : 2 * (i : Int) + 1 = a := by omega
    have e2 : (a : Int) + 1 = b := by omega
    by_cases h0 : n ≤ a
    · have HF : Hid (LowW wr c g (n + 1) cap l' ∧ l'.Perm l ∧ HeapN (fun k => l'.getD k 0) n ∧ l'.getD n 0 = l.getD n 0 ∧ Turn (fun k => k = g) w wr) := ⟨hL, hP.out.1, down_end hP.out.2.1 (by omega), hP.out.2.2⟩
      clear hL hP
      go_wp2
      go_ret
      exact ⟨⟨_, rfl⟩, l', HF.out⟩
    · have cl := hL.cell
      have ml := fun W h => m_less c (.slice (some ⟨g, 0, none⟩) (n + 1) cap) W h
      have ms := fun W h => m_swap c (.slice (some ⟨g, 0, none⟩) (n + 1) cap) W h
      -- the child that is the lower one
      have pick : ∃ j : Nat, j < n ∧ 0 < j ∧ (j - 1) / 2 = i ∧ (∀ c, 0 < c → c < n → (c - 1) / 2 = i → l'.getD j 0 ≤ l'.getD c 0) ∧
          ((¬ b < n ∧ j = a) ∨ (b < n ∧ l'.getD b 0 < l'.getD a 0 ∧ j = b) ∨ (b < n ∧ ¬ l'.getD b 0 < l'.getD a 0 ∧ j = a)) := by
        by_cases h1 : b < n
        · by_cases h2 : l'.getD b 0 < l'.getD a 0
          · refine ⟨b, h1, by omega, by omega, fun c h3 h4 h5 => ?_, .inr (.inl ⟨h1, h2, rfl⟩)⟩
            rcases (show c = a ∨ c = b by omega) with rfl | rfl
            · omega
            · exact Nat.le_refl _
          · refine ⟨a, by omega, by omega, by omega, fun c h3 h4 h5 => ?_, .inr (.inr ⟨h1, h2, rfl⟩)⟩
            rcases (show c = a ∨ c = b by omega) with rfl | rfl
            · exact Nat.le_refl _
            · omega
        · refine ⟨a, by omega, by omega, by omega, fun c h3 h4 h5 => ?_, .inl ⟨h1, rfl⟩⟩
          rcases (show c = a by omega) with rfl
          exact Nat.le_refl _
      obtain ⟨j, hj, hj0, hjp, hjm, hcase⟩ := pick
      have c2 : ∀ m, Calls Try.prog 154 #[.slice (some ⟨g, 0, none⟩) (n + 1) cap, .int .i64 j, .int .i64 i] (wr.drewN m) fun e w' => e = .returned (.bool (decide (l'.getD j 0 < l'.getD i 0))) ∧ ∃ q, w' = wr.drewN (m + q) := fun m =>
        (less_any (hL.drewN m) j i (by omega) (by omega)).mono fun e w' ⟨he, q, hq⟩ => ⟨he, q, by rw [hq, World.drewN_drewN]⟩
      have c2' := less_any hL j i (by omega) (by omega)
      by_cases hsw : l'.getD j 0 < l'.getD i 0
      · have HS : Hid (∀ m, Calls Try.prog 155 #[.slice (some ⟨g, 0, none⟩) (n + 1) cap, .int .i64 i, .int .i64 j] (wr.drewN m) fun e w' => e = .returned (.tuple #[]) ∧ LowW w' c g (n + 1) cap (swl l' i j) ∧ Turn (fun k => k = g) (wr.drewN m) w') := fun m => swap_any (hL.drewN m) i j (by omega) (by omega)
        have HF : Hid ((swl l' i j).Perm l ∧ DownInv (fun k => (swl l' i j).getD k 0) n j ∧ (swl l' i j).getD n 0 = l.getD n 0) := ⟨(swl_perm l' i j (by omega) (by omega)).trans hP.out.1, by
          rw [swl_fun l' i j (by omega) (by omega)]
          exact down_step hP.out.2.1 hj hjp hj0 hjm hsw, by
          rw [swl_at l' i j n (by omega) (by omega), sw_k _ (by omega) (by omega)]
          exact hP.out.2.2.1⟩
        simp only [decide_eq_true hsw] at c2 c2'
        clear hjm hjp
        rcases hcase with ⟨h1, rfl⟩ | ⟨h1, h2, rfl⟩ | ⟨h1, h2, rfl⟩
        · clear hL
          go_wp2_with (first
            | (go_at_call 154; (with_reducible refine c2'.mono ?_); rintro e w' ⟨rfl, m, rfl⟩)
            | (go_at_call 155; (with_reducible refine (HS.out _).mono ?_); rintro e w' ⟨rfl, hL2, hT2⟩))
          go_roundg (n + 1 - j)
          case measure => omega
          case rel => exact ⟨j, swl l' i j, Nat.le_refl _, rfl, by omega, hL2, HF.out.1, HF.out.2.1, HF.out.2.2, (hP.out.2.2.2.drewN _).trans hT2 (fun _ h => .inl h)⟩
        · have c1 := less_any hL j a (by omega) (by omega)
          rw [decide_eq_true h2] at c1
          clear hL
          go_wp2_with (first
            | (go_at_call 154; (with_reducible refine c1.mono ?_); rintro e w' ⟨rfl, m, rfl⟩)
            | (go_at_call 154; (with_reducible refine (c2 _).mono ?_); rintro e w' ⟨rfl, m, rfl⟩)
            | (go_at_call 155; (with_reducible refine (HS.out _).mono ?_); rintro e w' ⟨rfl, hL2, hT2⟩))
          go_roundg (n + 1 - j)
          case measure => omega
          case rel => exact ⟨j, swl l' i j, Nat.le_refl _, rfl, by omega, hL2, HF.out.1, HF.out.2.1, HF.out.2.2, (hP.out.2.2.2.drewN _).trans hT2 (fun _ h => .inl h)⟩
        · have c1 := less_any hL b j (by omega) (by omega)
          rw [decide_eq_false h2] at c1
          clear hL
          go_wp2_with (first
            | (go_at_call 154; (with_reducible refine c1.mono ?_); rintro e w' ⟨rfl, m, rfl⟩)
            | (go_at_call 154; (with_reducible refine (c2 _).mono ?_); rintro e w' ⟨rfl, m, rfl⟩)
            | (go_at_call 155; (with_reducible refine (HS.out _).mono ?_); rintro e w' ⟨rfl, hL2, hT2⟩))
          go_roundg (n + 1 - j)
          case measure => omega
          case rel => exact ⟨j, swl l' i j, Nat.le_refl _, rfl, by omega, hL2, HF.out.1, HF.out.2.1, HF.out.2.2, (hP.out.2.2.2.drewN _).trans hT2 (fun _ h => .inl h)⟩
      · have HF : Hid (∀ m, LowW (wr.drewN m) c g (n + 1) cap l' ∧ l'.Perm l ∧ HeapN (fun k => l'.getD k 0) n ∧ l'.getD n 0 = l.getD n 0 ∧ Turn (fun k => k = g) w (wr.drewN m)) := fun m => ⟨hL.drewN m, hP.out.1, down_stop hP.out.2.1 hjm (Nat.le_of_not_lt hsw), hP.out.2.2.1, hP.out.2.2.2.drewN m⟩
        simp only [decide_eq_false hsw] at c2 c2'
        clear hjm hjp
        rcases hcase with ⟨h1, rfl⟩ | ⟨h1, h2, rfl⟩ | ⟨h1, h2, rfl⟩
        · clear hL
          go_wp2_with (go_at_call 154; (with_reducible refine c2'.mono ?_); rintro e w' ⟨rfl, m, rfl⟩)
          go_ret
          exact ⟨⟨_, rfl⟩, l', HF.out _⟩
        · have c1 := less_any hL j a (by omega) (by omega)
          rw [decide_eq_true h2] at c1
          clear hL
          go_wp2_with (first
            | (go_at_call 154; (with_reducible refine c1.mono ?_); rintro e w' ⟨rfl, m, rfl⟩)
            | (go_at_call 154; (with_reducible refine (c2 _).mono ?_); rintro e w' ⟨rfl, m, rfl⟩))
          go_ret
          exact ⟨⟨_, rfl⟩, l', HF.out _⟩
        · have c1 := less_any hL b j (by omega) (by omega)
          rw [decide_eq_false h2] at c1
          clear hL
          go_wp2_with (first
            | (go_at_call 154; (with_reducible refine c1.mono ?_); rintro e w' ⟨rfl, m, rfl⟩)
            | (go_at_call 154; (with_reducible refine (c2 _).mono ?_); rintro e w' ⟨rfl, m, rfl⟩))
          go_ret
          exact ⟨⟨_, rfl⟩, l', HF.out _⟩
end Go.Proofs.Ytdddmjdlikjedaa

/-
  Push of the freed places' heap. Conditions: the slice is the call's own.
-/
namespace Go.Proofs.Ytdddmjdlikjedaa
open Go.ChangeShapes Go.WideShapes Go.ChangeAt Go.RowKit

theorem ints70 : Try.prog.underlying 128 = some (.slice 3) := by kernel_rfl
theorem info3 : (Try.prog.info? 3).map (fun i => (i.zero, i.size, i.bytes)) = some (some (.int .i64 0), 1, 8) := by kernel_rfl

/-- The slice at the cell c, perhaps none, is the list l. -/
structure LowV (w : World) (c : Addr) (vf : Value) (l : List Nat) : Prop where
  cell : w.cell? c = some vf
  free : w.frozen? c = false
  own : w.ownsRow 0 3 1 vf l.length (natsOf l)
  ne : vf.ownBlock ≠ some c.block

/-- Of the block of c nothing but the cell c is another. -/
def Keeps (c : Addr) (w w' : World) : Prop := ∀ cs t, c.spot = none → w.heap[c.block]? = some (.cells cs t (0, 0)) → ∃ v, w'.heap[c.block]? = some (.cells (cs.setIfInBounds c.off v) t (0, 0))
theorem Keeps.store (c : Addr) (w : World) (v : Value) : Keeps c w (w.setCell c v) := by
  intro cs t hs h
  obtain ⟨b, o, s⟩ := c
  simp only at hs h
  subst hs
  exact ⟨v, set_at h o v⟩
theorem Keeps.ahead {c : Addr} {w w1 w' : World} (h : Keeps c w1 w') (e : w1.heap[c.block]? = w.heap[c.block]?) : Keeps c w w' := fun cs t hs hh => h cs t hs (e.trans hh)
theorem Keeps.behind {c : Addr} {w w1 w' : World} (h : Keeps c w w1) (e : w'.heap[c.block]? = w1.heap[c.block]?) : Keeps c w w' := fun cs t hs hh => by
  obtain ⟨v, hv⟩ := h cs t hs hh
  exact ⟨v, e.trans hv⟩

theorem lpush_tail {w w1 : World} {c : Addr} {vf : Value} {l : List Nat} {k fl g2 fc2 : Nat} {o : Obj} {xs : List Value} (h : LowV w c vf l) (hfl : l.length = fl) (hxs : natsOf l = xs)
    (hown : w1.ownsRow 0 3 1 (.slice (some ⟨g2, 0, none⟩) (fl + 1) fc2) (fl + 1) (xs ++ [.int .i64 k])) (hgrow : (w.drew.alloc o).grownBy w1 vf.ownBlock) (hat : vf.ownBlock = some g2 ∨ g2 = w.heap.size + 1) :
    w1.cell? c = some vf ∧ w1.frozen? c = false ∧ Hid (LowW (w1.setCell c (.slice (some ⟨g2, 0, none⟩) (fl + 1) fc2)) c g2 (fl + 1) fc2 (l ++ [k]) ∧
      Turn (fun b => b = c.block ∨ vf.ownBlock = some b) w (w1.setCell c (.slice (some ⟨g2, 0, none⟩) (fl + 1) fc2)) ∧ (vf.ownBlock = some g2 ∨ w.heap.size ≤ g2) ∧ Keeps c w (w1.setCell c (.slice (some ⟨g2, 0, none⟩) (fl + 1) fc2))) := by
  subst hfl hxs
  have hT : Turn (fun k => vf.ownBlock = some k) w w1 := ((Turn.refl _ w).drew.alloc o).grown hgrow (fun k hk => .inl hk)
  have hc := hT.cell h.cell (fun e => h.ne e)
  have hlt := World.block_lt_of_cell? w c h.cell
  have hf : w1.frozen? c = false := by
    rw [← h.free]
    exact World.frozen?_of_block (hT.block c.block hlt h.ne)
  have hne : c.block ≠ g2 := by
    intro e
    rcases hat with h1 | h1
    · exact h.ne (by rw [h1, e])
    · omega
  refine ⟨hc, hf, ⟨World.cell?_setCell_same _ _ _ hc, by rw [World.frozen?_setCell]; exact hf, ?_, hne⟩, ?_, ?_, (Keeps.store c w1 _).ahead (hT.block c.block hlt h.ne)⟩
  · have h1 : (natsOf l ++ [Value.int .i64 (k : Int)]) = natsOf (l ++ [k]) := by simp [natsOf]
    rw [← h1]
    exact own_past hown (by simp [Value.ownBlock]; exact fun e => hne e.symm) _
  · exact (hT.mono (fun k hk => .inl (.inr hk))).setCell (.inl (.inl rfl)) _
  · rcases hat with h1 | h1
    · exact .inl h1
    · right; omega

theorem tassert (x : Value) (w : World) : Sem.run Try.prog (Instr.typeAssert (.iface 3 x) 20 3 false) w = .ok x w := by kernel_rfl

theorem lpush_any {w : World} {c : Addr} {vf : Value} {l : List Nat} (h : LowV w c vf l) (k : Nat) (hl : l.length < 65537) :
    Calls Try.prog 157 #[.pointer (some c), .iface 3 (.int .i64 k)] w fun e w' => e = .returned (.tuple #[]) ∧
      ∃ g cap, LowW w' c g (l.length + 1) cap (l ++ [k]) ∧ Turn (fun b => b = c.block ∨ vf.ownBlock = some b) w w' ∧ (vf.ownBlock = some g ∨ w.heap.size ≤ g) ∧ Keeps c w w' := by
  obtain ⟨i, hi, hz0, hz1, hz2⟩ := info_parts info3
  have HL := Lib.hid h
  have c1 := h.cell
  have c2 := h.free
  have hfo := h.own
  obtain ⟨p, fc, hvf⟩ := own_slice h.own
  have hclt := World.block_lt_of_cell? w c h.cell
  obtain ⟨fl, hfl⟩ : ∃ fl, l.length = fl := ⟨_, rfl⟩
  obtain ⟨xs, hxs⟩ : ∃ xs, natsOf l = xs := ⟨_, rfl⟩
  simp only [hfl, hxs] at hvf hfo hl ⊢
  subst hvf
  have K2 := Lib.hid hfl
  have K3 := Lib.hid hxs
  have q2 : ∀ u ∈ [Value.int .i64 (k : Int)], u.oneCell' = true := by
    intro u hu
    simp at hu
    subst hu
    rfl
  have q3 : fl + 1 ≤ maxLen := by unfold maxLen; omega
  have q4 : (fl + 1) * 8 ≤ 140737488355328 := by omega
  have ta := tassert
  clear h hfl hxs hl
  go_enter Try.func157, Try.ntmps157
  go_region_law (first | (refine step_append_lies _ rfl (.tmp 7) (.tmp 10) 128 rfl 0 3 i _ 1 8 ints70 hi hz0 hz1 hz2 rfl (by decide) (.slice p fl fc) fl xs (by simp [Act.eval]) (World.ownsRow.alloc hfo _) ⟨w.heap.size, 0, none⟩ 1 1 [.int .i64 k] (by simp [Act.eval]) rfl (fun j u hu => World.news_of_block (heap_alloc_new w.drew _) j u (by simpa using hu)) q2 (by decide) q3 q4 (Nat.zero_le _) (w.heap.size + 1) (by simp) ?_; intro g2 fc2 w1 hown hgrow hat hlt; obtain ⟨d1, d2, K6⟩ := lpush_tail (Hid.out HL) (Hid.out K2) (Hid.out K3) hown hgrow hat; clear hown hgrow hat))
  all_goals go_end0
  all_goals exact ⟨rfl, _, _, K6.out⟩

theorem LowV.drewN {w : World} {c : Addr} {vf : Value} {l : List Nat} (h : LowV w c vf l) (m : Nat) : LowV (w.drewN m) c vf l := ⟨h.cell, h.free, h.own, h.ne⟩

/-- heap.Push -/
theorem hpush_any {w : World} {c : Addr} {vf : Value} {l : List Nat} (h : LowV w c vf l) (k : Nat) (hl : l.length < 65537) (hh : IsHeap l) :
    Calls Try.prog 127 #[.iface 175 (.pointer (some c)), .iface 3 (.int .i64 k)] w fun e w' => e = .returned (.tuple #[]) ∧
      ∃ g cap l', LowW w' c g (l.length + 1) cap l' ∧ l'.Perm (l ++ [k]) ∧ IsHeap l' ∧ Turn (fun b => b = c.block ∨ vf.ownBlock = some b) w w' ∧ (vf.ownBlock = some g ∨ w.heap.size ≤ g) ∧ Keeps c w w' := by
  have c1 := lpush_any h k hl
  have mp := m_push c
  have ml := m_len c
  have HH := Lib.hid hh
  clear h hh
  go_enter Try.func127, Try.ntmps127
  go_wp2_with (first
    | (go_at_call 157; (with_reducible refine c1.mono ?_); rintro e w1 ⟨rfl, g, cap, hL, hT, hg⟩; have cl := hL.cell; have hcw := World.block_lt_of_cell? w1 _ cl; have K1 := Lib.hid (And.intro hL (And.intro hT hg)); clear hL hT hg)
    | (go_at_call 153; (with_reducible refine (len_any _ _ _ _).mono ?_); rintro e w2 ⟨rfl, rfl⟩)
    | (go_at_call 135; (with_reducible refine (up_any K1.out.1 l.length (by omega) (by omega) (up_begin HH.out k)).mono ?_); rintro e w3 ⟨rfl, l', hL3, hP3, hI3, hT3⟩))
  go_end0
  refine ⟨rfl, g, cap, l', hL3, hP3, hI3, ?_, K1.out.2.2.1, K1.out.2.2.2.behind (hT3.block c.block hcw K1.out.1.ne)⟩
  exact K1.out.2.1.trans hT3 (fun b hb => by
    subst hb
    rcases K1.out.2.2.1 with h | h
    · exact .inl (.inr h)
    · exact .inr h)

end Go.Proofs.Ytdddmjdlikjedaa

/-
  Pop of the freed places' heap. Conditions: the slice is the call's own.
-/
namespace Go.Proofs.Ytdddmjdlikjedaa
open Go.ChangeShapes Go.WideShapes Go.ChangeAt Go.RowKit

theorem natsOf_take (l : List Nat) (n : Nat) : natsOf (l.take n) = (natsOf l).take n := by simp [natsOf, List.map_take]
theorem lpop_tail {w : World} {c : Addr} {g n cap : Nat} {l : List Nat} (h : LowW w c g (n + 1) cap l) :
    LowW (w.setCell c (.slice (some ⟨g, 0, none⟩) n cap)) c g n cap (l.take n) ∧ Turn (fun b => b = c.block) w (w.setCell c (.slice (some ⟨g, 0, none⟩) n cap)) ∧ Keeps c w (w.setCell c (.slice (some ⟨g, 0, none⟩) n cap)) := by
  refine ⟨⟨World.cell?_setCell_same _ _ _ h.cell, by rw [World.frozen?_setCell]; exact h.free, ?_, h.ne⟩, (Turn.refl (fun b => b = c.block) w).setCell (p := c) (.inl rfl) _, Keeps.store c w _⟩
  have h3 := own_head h.own (m := n) (by omega)
  rw [Nat.mul_one, ← natsOf_take] at h3
  exact own_past h3 (by have := h.ne; simp [Value.ownBlock]; exact fun e => this e.symm) _

theorem lpop_any {w : World} {c : Addr} {g n cap : Nat} {l : List Nat} (h : LowW w c g (n + 1) cap l) (hn : n ≤ 65537) :
    Calls Try.prog 156 #[.pointer (some c)] w fun e w' => e = .returned (.iface 3 (.int .i64 (l.getD n 0 : Nat))) ∧ LowW w' c g n cap (l.take n) ∧ Turn (fun b => b = c.block) w w' ∧ Keeps c w w' := by
  have c1 := h.cell
  have c2 := h.free
  have c3 := h.at' n (by omega)
  obtain ⟨g', cap', he, hc, hc'⟩ := own_shape h.own (by omega)
  simp at he
  obtain ⟨rfl, rfl⟩ := he
  have HT := Lib.hid (lpop_tail h)
  have hne : (n == cap) = false := by simp; omega
  generalize ((l.getD n 0 : Nat) : Int) = x at *
  clear h
  go_enter Try.func156, Try.ntmps156
  go_wp2
  go_ret
  exact ⟨rfl, HT.out⟩

theorem take_end {l : List Nat} {n : Nat} (h : l.length = n + 1) : l.take n ++ [l.getD n 0] = l := by
  have h1 : l.getD n 0 = l[n]'(by omega) := by simp [List.getD, List.getElem?_eq_getElem (show n < l.length by omega)]
  rw [h1, List.take_append_getElem (by omega), List.take_of_length_le (by omega)]
theorem heap_take {l : List Nat} {n : Nat} (h : HeapN (fun k => l.getD k 0) n) (hl : l.length = n + 1) : IsHeap (l.take n) := by
  intro c h0 hc
  have e : ∀ k, k < n → (l.take n).getD k 0 = l.getD k 0 := fun k hk => by simp [List.getD, hk]
  have hc' : c < n := by simp at hc; omega
  show (l.take n).getD _ 0 ≤ (l.take n).getD _ 0
  rw [e _ (by omega), e _ hc']
  exact h c h0 hc'

/-- heap.Pop -/
theorem hpop_any {w : World} {c : Addr} {g n cap : Nat} {l : List Nat} (h : LowW w c g (n + 1) cap l) (hn : n ≤ 65537) (hh : IsHeap l) :
    Calls Try.prog 126 #[.iface 175 (.pointer (some c))] w fun e w' => e = .returned (.iface 3 (.int .i64 (l.getD 0 0 : Nat))) ∧
      ∃ l', LowW w' c g n cap l' ∧ (l' ++ [l.getD 0 0]).Perm l ∧ IsHeap l' ∧ Turn (fun b => b = c.block ∨ b = g) w w' ∧ Keeps c w w' := by
  have hlen := h.len
  have cl := h.cell
  have mp := m_pop c
  have ml := fun v W h => m_len c v W h
  have ms := fun v W h => m_swap c v W h
  have hne := Lib.hid h.ne
  have hcw := World.block_lt_of_cell? w _ cl
  have c1 := swap_any h 0 n (by omega) (by omega)
  rw [show ((0 : Nat) : Int) = 0 from rfl] at c1
  have HD := Lib.hid (down_begin hh n hlen)
  have H0 := Lib.hid (show (swl l 0 n).getD n 0 = l.getD 0 0 by rw [swl_at l 0 n n (by omega) (by omega), sw_j])
  have HP := Lib.hid (swl_perm l 0 n (by omega) (by omega))
  clear h hh
  go_enter Try.func126, Try.ntmps126
  go_wp2_with (first
    | (go_at_call 153; (with_reducible refine (len_any _ _ _ _).mono ?_); rintro e w1 ⟨rfl, rfl⟩)
    | (go_at_call 155; (with_reducible refine c1.mono ?_); rintro e w2 ⟨rfl, hL2, hT2⟩; have K2 := Lib.hid (And.intro hL2 hT2); clear hL2 hT2)
    | (go_at_call 134; (with_reducible refine (down_any K2.out.1 hn HD.out).mono ?_); rintro e w3 ⟨⟨b3, rfl⟩, l3, hL3, hP3, hI3, hE3, hT3⟩; have K3 := Lib.hid (And.intro hL3 (And.intro hP3 (And.intro hI3 (And.intro hE3 hT3)))); clear hL3 hP3 hI3 hE3 hT3)
    | (go_at_call 156; (with_reducible refine (lpop_any K3.out.1 hn).mono ?_); rintro e w4 ⟨rfl, hL4, hT4, hK4⟩))
  go_ret
  obtain ⟨hL3, hP3, hI3, hE3, hT3⟩ := K3.out
  have hl3 := hL3.len
  have e3 : l3.getD n 0 = l.getD 0 0 := hE3.trans H0.out
  have e4 : l3.take n ++ [l.getD 0 0] = l3 := by rw [← e3]; exact take_end hl3
  have hb3 := (K2.out.2.trans hT3 (fun b hb => .inl hb)).block c.block hcw hne.out
  refine ⟨by rw [← e3]; rfl, l3.take n, hL4, ?_, heap_take hI3 hl3, ?_, hK4.ahead hb3⟩
  · rw [e4]; exact hP3.trans HP.out
  · exact ((K2.out.2.trans hT3 (fun b hb => .inl hb)).mono (fun b hb => .inl (.inr hb))).trans hT4 (fun b hb => .inl (.inl hb))
end Go.Proofs.Ytdddmjdlikjedaa

/-
  The pool as plain data: frames (users and bytes), and the freed ones among them; the pool in memory. No walk, no conditions.
-/
namespace Go.Proofs.Ytdddmjdlikjedaa
open Go.RowKit

structure Pg where
  users : Nat
  bytes : List UInt8
deriving DecidableEq
def blank : List UInt8 := List.replicate 64 0
def Pg.none : Pg := ⟨0, blank⟩
def bcells (l : List UInt8) : List Value := l.map fun b => .int .u8 (b.toNat : Int)
theorem bcells_len (l : List UInt8) : (bcells l).length = l.length := by simp [bcells]
theorem bcells_one (l : List UInt8) : ∀ v ∈ bcells l, v.oneCell' = true := by
  intro v hv
  obtain ⟨b, _, rfl⟩ := List.mem_map.1 hv
  rfl
def Pg.cells (p : Pg) : List Value := .int .i64 (p.users : Int) :: bcells p.bytes
theorem Pg.cells_len {p : Pg} (h : p.bytes.length = 64) : p.cells.length = 65 := by simp [Pg.cells, bcells_len, h]
theorem Pg.cells_one (p : Pg) : ∀ v ∈ p.cells, v.oneCell' = true := by
  intro v hv
  rcases List.mem_cons.1 hv with rfl | hv
  · rfl
  · exact bcells_one _ v hv
def pcells (l : List Pg) : List Value := l.flatMap Pg.cells
def Sized (l : List Pg) : Prop := ∀ (k : Nat) (p : Pg), l[k]? = some p → p.bytes.length = 64

theorem Sized.tail {p : Pg} {l : List Pg} (h : Sized (p :: l)) : Sized l := fun k q hk => h (k + 1) q (by simpa using hk)
theorem Sized.head {p : Pg} {l : List Pg} (h : Sized (p :: l)) : p.bytes.length = 64 := h 0 p rfl
theorem pcells_len {l : List Pg} (h : Sized l) : (pcells l).length = l.length * 65 := by
  induction l with
  | nil => rfl
  | cons p l ih =>
    have h1 := ih h.tail
    have h2 := Pg.cells_len h.head
    simp only [pcells, List.flatMap_cons, List.length_append, List.length_cons] at h1 ⊢
    omega
theorem pcells_cons (p : Pg) (l : List Pg) : pcells (p :: l) = p.cells ++ pcells l := rfl
theorem pcells_push (l : List Pg) (p : Pg) : pcells (l ++ [p]) = pcells l ++ p.cells := by simp [pcells]
theorem pcells_at {l : List Pg} (h : Sized l) (i : Nat) (p : Pg) (hp : l[i]? = some p) (j : Nat) (hj : j < 65) : (pcells l)[i * 65 + j]? = p.cells[j]? := by
  induction l generalizing i with
  | nil => simp at hp
  | cons t l ih =>
    have h2 := Pg.cells_len h.head
    cases i with
    | zero =>
      simp at hp
      subst hp
      rw [pcells_cons, Nat.zero_mul, Nat.zero_add, List.getElem?_append_left (by omega)]
    | succ i =>
      simp at hp
      have h1 := ih h.tail i hp
      rw [pcells_cons, List.getElem?_append_right (by omega), show (i + 1) * 65 + j - t.cells.length = i * 65 + j by omega]
      exact h1
/-- Some cells of a list are others. -/
def putAt (l : List Value) (o : Nat) (vs : List Value) : List Value := l.take o ++ (vs ++ l.drop (o + vs.length))
theorem putAt_len {l : List Value} {o : Nat} {vs : List Value} (h : o + vs.length ≤ l.length) : (putAt l o vs).length = l.length := by simp [putAt]; omega
theorem putAt_get {l : List Value} {o : Nat} {vs : List Value} (h : o + vs.length ≤ l.length) (i : Nat) : (putAt l o vs)[i]? = if o ≤ i ∧ i < o + vs.length then vs[i - o]? else l[i]? := by
  unfold putAt
  have h1 : (l.take o).length = o := by rw [List.length_take]; omega
  by_cases h2 : i < o
  · rw [List.getElem?_append_left (by omega), if_neg (by omega), List.getElem?_take, if_pos h2]
  · rw [List.getElem?_append_right (by omega), h1]
    by_cases h3 : i < o + vs.length
    · rw [List.getElem?_append_left (by omega), if_pos ⟨by omega, h3⟩]
    · rw [List.getElem?_append_right (by omega), if_neg (by omega), List.getElem?_drop, show o + vs.length + (i - o - vs.length) = i by omega]
theorem Sized.set {l : List Pg} (h : Sized l) {k : Nat} {q : Pg} (hq : q.bytes.length = 64) : Sized (l.set k q) := fun j r hr => by
  by_cases e : k = j
  · subst e
    rw [List.getElem?_set] at hr
    simp at hr
    rw [← hr.2]; exact hq
  · rw [List.getElem?_set_ne e] at hr
    exact h j r hr
theorem pcells_put {l : List Pg} (h : Sized l) {k o : Nat} {p q : Pg} {cs : List Value} (hk : l[k]? = some p) (hq : q.bytes.length = 64) (ho : o + cs.length ≤ 65) (hc : putAt p.cells o cs = q.cells) :
    putAt (pcells l) (k * 65 + o) cs = pcells (l.set k q) := by
  have hlt := (List.getElem?_eq_some_iff.1 hk).1
  have hl := pcells_len h
  have hs := h k p hk
  have hpc := Pg.cells_len hs
  have hqc := Pg.cells_len hq
  have h2 := h.set (k := k) hq
  have hl2 := pcells_len h2
  rw [List.length_set] at hl2
  apply List.ext_getElem?
  intro i
  rw [putAt_get (by omega)]
  obtain ⟨m, r, rfl, hr⟩ : ∃ m r, i = m * 65 + r ∧ r < 65 := ⟨i / 65, i % 65, by omega, by omega⟩
  by_cases hm : m < l.length
  · by_cases e : m = k
    · subst e
      rw [pcells_at h2 m q (by rw [List.getElem?_set_self hlt]) r hr, ← hc, putAt_get (by omega), pcells_at h m p hk r hr]
      by_cases c : o ≤ r ∧ r < o + cs.length
      · rw [if_pos (by omega), if_pos c, show m * 65 + r - (m * 65 + o) = r - o by omega]
      · rw [if_neg (by omega), if_neg c]
    · obtain ⟨t, ht⟩ : ∃ t, l[m]? = some t := ⟨_, List.getElem?_eq_getElem hm⟩
      rw [if_neg (by omega), pcells_at h m t ht r hr, pcells_at h2 m t (by rw [List.getElem?_set_ne (fun h => e h.symm)]; exact ht) r hr]
  · rw [if_neg (by omega), List.getElem?_eq_none (by omega), List.getElem?_eq_none (by omega)]
theorem own_putAt {g n c e size : Nat} : ∀ (vs : List Value) (o : Nat) (w : World) (xs : List Value), w.ownsRow 0 e size (.slice (some ⟨g, 0, none⟩) n c) n xs → o + vs.length ≤ xs.length → (w.setCells g o vs).ownsRow 0 e size (.slice (some ⟨g, 0, none⟩) n c) n (putAt xs o vs)
  | [], o, w, xs, h, _ => by
    have e : putAt xs o [] = xs := by simp [putAt]
    rw [e]
    exact h
  | v :: r, o, _, xs, h, hl => by
    simp only [List.length_cons] at hl
    have h1 := (h.stored o v).1
    have h2 := own_putAt r (o + 1) _ _ h1 (by simp; omega)
    have e : putAt (xs.set o v) (o + 1) r = putAt xs o (v :: r) := by
      unfold putAt
      rw [List.take_add_one, List.take_set_of_le (by omega), List.getElem?_set_self (by omega), List.drop_set_of_lt (by omega)]
      simp [show o + 1 + r.length = o + (r.length + 1) by omega]
    rw [e] at h2
    exact h2
theorem turn_setCells {g : Nat} {F : Nat → Prop} (hF : F g) : ∀ (vs : List Value) (o : Nat) (a w : World), Turn F a w → Turn F a (w.setCells g o vs)
  | [], _, _, _, h => h
  | v :: r, o, a, _, h => turn_setCells hF r (o + 1) a _ (h.setCell (p := ⟨g, o, none⟩) (.inl hF) v)

/-- The pool at block a, in the world w. -/
structure PMem (w : World) (a : Nat) (vs vf : Value) (cap : Nat) (ps : List Pg) (fr : List Nat) : Prop where
  head : w.heap[a]? = some (.cells #[.int .i64 cap, vs, vf] 130 (0, 0))
  frames : w.ownsRow 0 139 65 vs ps.length (pcells ps)
  freed : w.ownsRow 0 3 1 vf fr.length (natsOf fr)
  sized : Sized ps
def Foot (a : Nat) (vs vf : Value) (k : Nat) : Prop := k = a ∨ vs.ownBlock = some k ∨ vf.ownBlock = some k

/-- What calls can make of it. -/
structure POK (cap : Nat) (ps : List Pg) (fr : List Nat) : Prop where
  top : cap ≤ 65536
  len : ps.length ≤ cap
  free : ∀ k, k ∈ fr ↔ ∃ p, ps[k]? = some p ∧ p.users = 0
  once : fr.Nodup
  heap : IsHeap fr
  empty : ∀ (k : Nat) (p : Pg), ps[k]? = some p → p.users = 0 → p = Pg.none

theorem ne_own {w : World} {e : TypeId} {size : Nat} {v : Value} {n : Nat} {xs : List Value} (h : w.ownsRow 0 e size v n xs) {a : Nat} {cs : Array Value} {t : TypeId} {f : Nat × Nat}
    (ha : w.heap[a]? = some (.cells cs t f)) (hne : t ≠ e) : v.ownBlock ≠ some a := by
  intro hk
  obtain ⟨cur, hc⟩ := own_block h hk
  exact unlike ha hc hne rfl
theorem ne_own2 {w : World} {e e' : TypeId} {size size' : Nat} {v v' : Value} {n n' : Nat} {xs xs' : List Value} (h : w.ownsRow 0 e size v n xs) (h' : w.ownsRow 0 e' size' v' n' xs') (hne : e ≠ e') {k : Nat} (hk : v.ownBlock = some k) : v'.ownBlock ≠ some k := by
  obtain ⟨cur, hc⟩ := own_block h hk
  exact ne_own h' hc hne

section
variable {w : World} {a cap : Nat} {vs vf : Value} {ps : List Pg} {fr : List Nat}
theorem Foot.lt (h : PMem w a vs vf cap ps fr) {k : Nat} (hk : Foot a vs vf k) : k < w.heap.size := by
  rcases hk with rfl | hk | hk
  · exact lt_of_block h.head
  · obtain ⟨cur, hc⟩ := own_block h.frames hk; exact lt_of_block hc
  · obtain ⟨cur, hc⟩ := own_block h.freed hk; exact lt_of_block hc
theorem PMem.kept {w' : World} {F : Nat → Prop} (h : PMem w a vs vf cap ps fr) (ht : Turn F w w') (hF : ∀ k, Foot a vs vf k → ¬ F k) : PMem w' a vs vf cap ps fr :=
  ⟨ht.heap h.head (hF a (.inl rfl)), ht.own h.frames (fun k hk => hF k (.inr (.inl hk))), ht.own h.freed (fun k hk => hF k (.inr (.inr hk))), h.sized⟩
theorem PMem.past {w' : World} (h : PMem w a vs vf cap ps fr) (ht : Turn NoBlock w w') : PMem w' a vs vf cap ps fr := h.kept ht (fun _ _ h => h)
theorem PMem.drewN (h : PMem w a vs vf cap ps fr) (n : Nat) : PMem (w.drewN n) a vs vf cap ps fr := ⟨h.head, h.frames, h.freed, h.sized⟩
theorem PMem.c0 (h : PMem w a vs vf cap ps fr) : w.cell? ⟨a, 0, Option.none⟩ = some (.int .i64 cap) := by simpa using cell_at h.head 0
theorem PMem.c1 (h : PMem w a vs vf cap ps fr) : w.cell? ⟨a, 1, Option.none⟩ = some vs := by simpa using cell_at h.head 1
theorem PMem.c2 (h : PMem w a vs vf cap ps fr) : w.cell? ⟨a, 2, Option.none⟩ = some vf := by simpa using cell_at h.head 2
theorem PMem.f (h : PMem w a vs vf cap ps fr) (j : Nat) : w.frozen? ⟨a, j, Option.none⟩ = false := free_at h.head j
theorem PMem.low (h : PMem w a vs vf cap ps fr) : LowV w ⟨a, 2, Option.none⟩ vf fr := ⟨h.c2, h.f 2, h.freed, ne_own h.freed h.head (by decide)⟩

/-- One frame's cells. -/
theorem PMem.page (h : PMem w a vs vf cap ps fr) {k : Nat} {p : Pg} (hk : ps[k]? = some p) :
    ∃ g c, vs = .slice (some ⟨g, 0, Option.none⟩) ps.length c ∧ k < ps.length ∧ ps.length ≤ c ∧ c ≤ 9223372036854775807 ∧ a ≠ g ∧ vf.ownBlock ≠ some g ∧
      w.cell? ⟨g, k * 65, Option.none⟩ = some (.int .i64 (p.users : Int)) ∧ w.rangeAt g (k * 65) p.cells ∧ w.rangeAt g (k * 65 + 1) (bcells p.bytes) ∧
      (∀ j, j < 65 → (w.cell? ⟨g, k * 65 + j, Option.none⟩).isSome = true) ∧ ∀ j, w.frozen? ⟨g, j, Option.none⟩ = false := by
  have hlt : k < ps.length := (List.getElem?_eq_some_iff.1 hk).1
  obtain ⟨g, c, rfl, hc, hc'⟩ := own_shape h.frames (by omega)
  have hs := h.sized k p hk
  have hl := Pg.cells_len hs
  have hall : ∀ j, j < 65 → w.cell? ⟨g, k * 65 + j, Option.none⟩ = p.cells[j]? := fun j hj => (h.frames.cellAt (k * 65 + j) (by omega)).trans (pcells_at h.sized k p hk j hj)
  refine ⟨g, c, rfl, hlt, hc, hc', fun e => ne_own h.frames h.head (by decide) (by simp [Value.ownBlock, e]), ne_own2 h.frames h.freed (by decide) rfl, ?_, ?_, ?_, ?_, fun j => h.frames.frozenAt j⟩
  · exact (hall 0 (by omega)).trans rfl
  · intro j v hv
    have := (List.getElem?_eq_some_iff.1 hv).1
    rw [hall j (by omega)]; exact hv
  · intro j v hv
    have := (List.getElem?_eq_some_iff.1 hv).1
    rw [bcells_len, hs] at this
    have h1 := hall (1 + j) (by omega)
    rw [← Nat.add_assoc] at h1
    rw [h1, Nat.add_comm 1 j]
    exact hv
  · intro j hj
    rw [hall j hj, List.getElem?_eq_getElem (by omega)]; rfl
/-- Some cells of one frame are written. -/
theorem PMem.put {g n c k o : Nat} {p : Pg} {cs : List Value} (q : Pg) (h : PMem w a (.slice (some ⟨g, 0, Option.none⟩) n c) vf cap ps fr) (hk : ps[k]? = some p) (hq : q.bytes.length = 64) (ho : o + cs.length ≤ 65) (hc : putAt p.cells o cs = q.cells) :
    PMem (w.setCells g (k * 65 + o) cs) a (.slice (some ⟨g, 0, Option.none⟩) n c) vf cap (ps.set k q) fr ∧ Turn (fun b => b = g) w (w.setCells g (k * 65 + o) cs) := by
  have hlt : k < ps.length := (List.getElem?_eq_some_iff.1 hk).1
  have hso := h.frames
  obtain ⟨_, _, he, _⟩ := own_shape hso (by omega)
  simp at he
  have hn := he.2.1
  rw [← hn] at hso
  have hag : a ≠ g := fun e => ne_own h.frames h.head (by decide) (by simp [Value.ownBlock, e])
  have hgf : vf.ownBlock ≠ some g := ne_own2 h.frames h.freed (by decide) rfl
  have hpl := pcells_len h.sized
  have hs := h.sized k p hk
  have hpc := Pg.cells_len hs
  have t : Turn (fun b => b = g) w (w.setCells g (k * 65 + o) cs) := turn_setCells (F := fun b => b = g) rfl _ _ _ _ (Turn.refl _ _)
  have s1 := own_putAt cs (k * 65 + o) w (pcells ps) hso (by omega)
  rw [pcells_put h.sized hk hq ho hc] at s1
  refine ⟨⟨t.heap h.head hag, ?_, t.own h.freed (fun k hk e => hgf (by rw [hk, e])), h.sized.set hq⟩, t⟩
  simpa [hn] using s1
/-- The freed places have become others, in the same block or another one. -/
theorem PMem.freedNew {w' : World} {g n c : Nat} {fr' : List Nat} {F : Nat → Prop} (h : PMem w a vs vf cap ps fr) (hL : LowW w' ⟨a, 2, Option.none⟩ g n c fr') (hT : Turn F w w') (hF : ∀ k, F k → k = a ∨ vf.ownBlock = some k ∨ k = g)
    (hg : vf.ownBlock = some g ∨ w.heap.size ≤ g) (ha : Keeps ⟨a, 2, Option.none⟩ w w') :
    PMem w' a vs (.slice (some ⟨g, 0, Option.none⟩) n c) cap ps fr' := by
  obtain ⟨v, h1⟩ := ha _ _ rfl h.head
  have h5 := hL.cell
  rw [cell_at h1 2] at h5
  simp at h5
  subst h5
  refine ⟨by simpa using h1, ?_, ?_, h.sized⟩
  · refine hT.own h.frames (fun k hk hFk => ?_)
    obtain ⟨cur, hc⟩ := own_block h.frames hk
    rcases hF k hFk with rfl | h6 | rfl
    · exact ne_own h.frames h.head (by decide) hk
    · exact ne_own2 h.frames h.freed (by decide) hk h6
    · rcases hg with hg | hg
      · exact ne_own2 h.frames h.freed (by decide) hk hg
      · have := lt_of_block hc; omega
  · have := hL.own
    rw [hL.len]
    exact this
end
end Go.Proofs.Ytdddmjdlikjedaa

/-
  What each call makes of the pool's frames, as plain data. No walk, no conditions.
-/
namespace Go.Proofs.Ytdddmjdlikjedaa

def isFree (p : Pg) : Bool := p.users == 0
/-- The lowest free place; the number of places, if there is none. -/
def lowOf (L : List Pg) : Nat := L.findIdx isFree
def padP (cap : Nat) (ps : List Pg) : List Pg := ps ++ List.replicate (cap - ps.length) Pg.none
theorem padP_len {cap : Nat} {ps : List Pg} (h : ps.length ≤ cap) : (padP cap ps).length = cap := by simp [padP]; omega
theorem padP_low {cap : Nat} {ps : List Pg} {k : Nat} (h : k < ps.length) : (padP cap ps)[k]? = ps[k]? := by
  unfold padP; rw [List.getElem?_append_left h]
theorem padP_high {cap : Nat} {ps : List Pg} {k : Nat} (h : ps.length ≤ k) (h' : k < cap) : (padP cap ps)[k]? = some Pg.none := by
  unfold padP; rw [List.getElem?_append_right h, List.getElem?_replicate, if_pos (by omega)]
theorem padP_set {cap : Nat} {ps : List Pg} {k : Nat} (p : Pg) (h : k < ps.length) : padP cap (ps.set k p) = (padP cap ps).set k p := by
  unfold padP; rw [List.set_append_left _ _ h, List.length_set]
theorem padP_push {cap : Nat} {ps : List Pg} (p : Pg) (h : ps.length < cap) : padP cap ((ps ++ [Pg.none]).set ps.length p) = (padP cap ps).set ps.length p := by
  unfold padP
  rw [List.set_append_right _ _ (Nat.le_refl _), List.set_append_right _ _ (Nat.le_refl _)]
  have e : [Pg.none].set 0 p = [p] := rfl
  simp only [Nat.sub_self, e, List.length_append, List.length_cons, List.length_nil]
  obtain ⟨m, hm⟩ : ∃ m, cap - ps.length = m + 1 := ⟨cap - ps.length - 1, by omega⟩
  rw [hm, show cap - (ps.length + (0 + 1)) = m by omega, List.replicate_succ]
  simp

theorem lowOf_is {L : List Pg} {k : Nat} {p : Pg} (hk : L[k]? = some p) (h0 : p.users = 0) (hm : ∀ (j : Nat) (q : Pg), j < k → L[j]? = some q → q.users ≠ 0) : lowOf L = k := by
  obtain ⟨hlt, he⟩ := List.getElem?_eq_some_iff.1 hk
  unfold lowOf
  rw [List.findIdx_eq hlt]
  refine ⟨by rw [he]; simp [isFree, h0], fun j hj => ?_⟩
  have := hm j _ hj (List.getElem?_eq_getElem (by omega))
  simpa [isFree] using this
theorem lowOf_not {L : List Pg} (h : ∀ (j : Nat) (q : Pg), L[j]? = some q → q.users ≠ 0) : lowOf L = L.length := by
  unfold lowOf
  rw [List.findIdx_eq_length]
  intro p hp
  obtain ⟨j, hj⟩ := List.getElem?_of_mem hp
  have := h j p hj
  simpa [isFree] using this
theorem POK.new (cap : Nat) (h : cap ≤ 65536) : POK cap [] [] := ⟨h, Nat.zero_le _, by simp, by simp, isHeap_nil, by simp⟩

theorem low_full {cap : Nat} {ps : List Pg} (ok : POK cap ps []) (h : ps.length = cap) : lowOf (padP cap ps) = cap := by
  have h1 : (padP cap ps).length = cap := padP_len ok.len
  have h2 : lowOf (padP cap ps) = (padP cap ps).length := lowOf_not (fun j q hj h0 => by
    have hlt := (List.getElem?_eq_some_iff.1 hj).1
    rw [padP_low (by omega)] at hj
    have := (ok.free j).2 ⟨q, hj, h0⟩
    simp at this)
  rw [h2, h1]
theorem low_new {cap : Nat} {ps : List Pg} (ok : POK cap ps []) (h : ps.length < cap) : lowOf (padP cap ps) = ps.length := by
  refine lowOf_is (padP_high (Nat.le_refl _) h) rfl ?_
  intro j q hj hq h0
  rw [padP_low hj] at hq
  have := (ok.free j).2 ⟨q, hq, h0⟩
  simp at this
theorem heap_low {l : List Nat} (h : IsHeap l) : ∀ k ∈ l, l.getD 0 0 ≤ k := by
  intro k hk
  obtain ⟨i, hi⟩ := List.getElem?_of_mem hk
  have hlt := (List.getElem?_eq_some_iff.1 hi).1
  have := heap_min h i hlt
  simp only [List.getD, hi, Option.getD_some] at this
  simpa [List.getD] using this
theorem low_freed {cap : Nat} {ps : List Pg} {fr : List Nat} (ok : POK cap ps fr) (h : 0 < fr.length) : lowOf (padP cap ps) = fr.getD 0 0 ∧ fr.getD 0 0 < ps.length := by
  have hm : fr.getD 0 0 ∈ fr := by
    cases fr with
    | nil => simp at h
    | cons x l => simp [List.getD]
  obtain ⟨p, hp, h0⟩ := (ok.free _).1 hm
  have hlt := (List.getElem?_eq_some_iff.1 hp).1
  refine ⟨lowOf_is (by rw [padP_low hlt]; exact hp) h0 ?_, hlt⟩
  intro j q hj hq hq0
  rw [padP_low (by omega)] at hq
  have := heap_low ok.heap j ((ok.free j).2 ⟨q, hq, hq0⟩)
  omega

theorem ok_new {cap : Nat} {ps : List Pg} {p : Pg} (ok : POK cap ps []) (h : ps.length < cap) (hp : p.users ≠ 0) : POK cap ((ps ++ [Pg.none]).set ps.length p) [] := by
  have hat : ∀ k q, ((ps ++ [Pg.none]).set ps.length p)[k]? = some q → ps[k]? = some q ∨ (k = ps.length ∧ q = p) := by
    intro k q hq
    rw [List.set_append_right _ _ (Nat.le_refl _)] at hq
    simp at hq
    by_cases hk : k < ps.length
    · rw [List.getElem?_append_left hk] at hq; exact .inl hq
    · rw [List.getElem?_append_right (by omega)] at hq
      right
      by_cases e : k = ps.length
      · subst e; simp at hq; exact ⟨rfl, hq.symm⟩
      · rw [List.getElem?_eq_none (by simp; omega)] at hq; simp at hq
  refine ⟨ok.top, by simp; omega, ?_, by simp, isHeap_nil, ?_⟩
  · intro k
    simp only [List.not_mem_nil, false_iff]
    rintro ⟨q, hq, h0⟩
    rcases hat k q hq with h1 | ⟨rfl, rfl⟩
    · have := (ok.free k).2 ⟨q, h1, h0⟩; simp at this
    · exact hp h0
  · intro k q hq h0
    rcases hat k q hq with h1 | ⟨rfl, rfl⟩
    · exact ok.empty k q h1 h0
    · exact absurd h0 hp
theorem ok_freed {cap : Nat} {ps : List Pg} {fr fr' : List Nat} {k : Nat} {p : Pg} (ok : POK cap ps fr) (hf : (fr' ++ [k]).Perm fr) (hh : IsHeap fr') (hp : p.users ≠ 0) : POK cap (ps.set k p) fr' := by
  have hn := (List.Perm.nodup_iff hf).2 ok.once
  have hmem : ∀ j, j ∈ fr ↔ j ∈ fr' ∨ j = k := fun j => by rw [← List.Perm.mem_iff hf]; simp
  have hkn : k ∉ fr' := by
    intro hk
    rw [List.nodup_append] at hn
    exact hn.2.2 k hk k (by simp) rfl
  refine ⟨ok.top, by simpa using ok.len, ?_, (List.nodup_append.1 hn).1, hh, ?_⟩
  · intro j
    by_cases e : k = j
    · subst e
      constructor
      · intro hj; exact absurd hj hkn
      · rintro ⟨q, hq, h0⟩
        rw [List.getElem?_set] at hq
        simp at hq
        obtain ⟨_, rfl⟩ := hq
        exact absurd h0 hp
    · rw [List.getElem?_set_ne e]
      have h1 := hmem j
      have h2 := ok.free j
      constructor
      · intro hj; exact h2.1 (h1.2 (.inl hj))
      · intro hj
        rcases h1.1 (h2.2 hj) with h4 | h4
        · exact h4
        · exact absurd h4.symm e
  · intro j q hq h0
    by_cases e : k = j
    · subst e
      rw [List.getElem?_set] at hq
      simp at hq
      obtain ⟨_, rfl⟩ := hq
      exact absurd h0 hp
    · rw [List.getElem?_set_ne e] at hq
      exact ok.empty j q hq h0
/-- A frame that is used stays so. -/
theorem ok_set {cap : Nat} {ps : List Pg} {fr : List Nat} {k : Nat} {p q : Pg} (ok : POK cap ps fr) (hk : ps[k]? = some p) (hp : p.users ≠ 0) (hq : q.users ≠ 0) : POK cap (ps.set k q) fr := by
  have hlt := (List.getElem?_eq_some_iff.1 hk).1
  refine ⟨ok.top, by simpa using ok.len, fun j => ?_, ok.once, ok.heap, fun j r hr h0 => ?_⟩
  · rw [ok.free j]
    by_cases e : k = j
    · subst e
      rw [List.getElem?_set_self hlt, hk]
      constructor
      · rintro ⟨r, hr, h0⟩; simp at hr; subst hr; exact absurd h0 hp
      · rintro ⟨r, hr, h0⟩; simp at hr; subst hr; exact absurd h0 hq
    · rw [List.getElem?_set_ne e]
  · by_cases e : k = j
    · subst e
      rw [List.getElem?_set_self hlt] at hr
      simp at hr; subst hr; exact absurd h0 hq
    · rw [List.getElem?_set_ne e] at hr
      exact ok.empty j r hr h0
/-- A frame that was used becomes free. -/
theorem ok_close {cap : Nat} {ps : List Pg} {fr fr' : List Nat} {k : Nat} {p : Pg} (ok : POK cap ps fr) (hk : ps[k]? = some p) (hp : p.users ≠ 0) (hf : fr'.Perm (fr ++ [k])) (hh : IsHeap fr') : POK cap (ps.set k Pg.none) fr' := by
  have hmem : ∀ j, j ∈ fr' ↔ j ∈ fr ∨ j = k := fun j => by rw [List.Perm.mem_iff hf]; simp
  have hlt := (List.getElem?_eq_some_iff.1 hk).1
  have hkn : k ∉ fr := by
    intro h
    obtain ⟨q, hq, h0⟩ := (ok.free k).1 h
    rw [hk] at hq
    simp at hq
    subst hq
    exact hp h0
  refine ⟨ok.top, by simpa using ok.len, ?_, ?_, hh, ?_⟩
  · intro j
    by_cases e : k = j
    · subst e
      constructor
      · intro _
        exact ⟨Pg.none, by simp [hlt], rfl⟩
      · intro _; exact (hmem k).2 (.inr rfl)
    · rw [List.getElem?_set_ne e]
      have h1 := hmem j
      have h2 := ok.free j
      constructor
      · intro hj
        rcases h1.1 hj with h3 | h3
        · exact h2.1 h3
        · exact absurd h3.symm e
      · intro hj; exact h1.2 (.inl (h2.2 hj))
  · rw [List.Perm.nodup_iff hf, List.nodup_append]
    exact ⟨ok.once, by simp, fun a ha b hb => by simp at hb; subst hb; intro e; subst e; exact hkn ha⟩
  · intro j q hq h0
    by_cases e : k = j
    · subst e
      rw [List.getElem?_set] at hq
      simp at hq
      exact hq.2.symm
    · rw [List.getElem?_set_ne e] at hq
      exact ok.empty j q hq h0
end Go.Proofs.Ytdddmjdlikjedaa

/-
  What New, take and Alloc of a pool answer, and what they make of its frames. No conditions but that the pool is one that calls can make.
-/
namespace Go.Proofs.Ytdddmjdlikjedaa
open Go.ChangeShapes Go.WideShapes Go.ChangeAt Go.RowKit

def zeroPg : Value := .agg (#[Value.int .i64 0] ++ Array.replicate 64 (Value.int .u8 0))
theorem info68 : (Try.prog.info? 139).map (fun i => (i.zero, i.size, i.bytes)) = some (some zeroPg, 65, 72) := by kernel_rfl
theorem frames60 : Try.prog.underlying 127 = some (.slice 139) := by kernel_rfl
theorem array66 : Try.prog.underlying 137 = some (.array 64 5) := by kernel_rfl
theorem zero68 : ∃ Z : Array Value, (∀ w, Sem.run Try.prog (zeroValue 139) w = .ok (.agg Z) w) ∧
    (∀ i : TypeInfo, i.size = 65 → Instr.fill (fun k => some (k * i.size, i.size)) ((Array.range (1 * i.size)).map (zeroPg.cells[· % zeroPg.cells.size]!)) [(0, .agg Z)] = some Z) ∧ Z.toList = Pg.none.cells :=
  ⟨#[Value.int .i64 0] ++ Array.replicate 64 (Value.int .u8 0), fun w => by kernel_rfl, fun i h => by rw [h]; kernel_rfl, by kernel_rfl⟩
theorem zero_cells : zeroPg.cells.toList = Pg.none.cells := by kernel_rfl

theorem new_no (n : Int) (w : World) (h : n < 0 ∨ 65536 < n) :
    Calls Try.prog 48 #[.int .i64 n] w fun e w' => e = .returned (.pointer none) ∧ w = w' := by
  rcases h with h | h
  all_goals
    go_enter Try.func48, Try.ntmps48
    go_wp2
    go_ret
    exact ⟨rfl, rfl⟩
theorem new_raw (n : Nat) (w : World) (h' : n ≤ 65536) :
    Calls Try.prog 48 #[.int .i64 n] w fun e w' => e = .returned (.pointer (some ⟨w.heap.size, 0, none⟩)) ∧ w' = w.alloc (.cells #[.int .i64 n, .slice none 0 0, .slice none 0 0] 130) := by
  go_enter Try.func48, Try.ntmps48
  go_wp2
  go_ret
  exact ⟨rfl, rfl⟩

/-- The table at block a: its frames L, its blocks F. -/
def PoolAt (w : World) (a : Nat) (F : Nat → Prop) (L : List Pg) : Prop := ∃ vs vf cap ps fr, PMem w a vs vf cap ps fr ∧ POK cap ps fr ∧ F = Foot a vs vf ∧ L = padP cap ps
theorem pool_own (a : Nat) (F : Nat → Prop) (L : List Pg) : Own F (fun w => PoolAt w a F L) := by
  refine ⟨fun w w' G h ht hf => ?_, fun w h j hj => ?_⟩
  · obtain ⟨vs, vf, cap, ps, fr, h1, h2, rfl, h4⟩ := h
    exact ⟨vs, vf, cap, ps, fr, h1.kept ht hf, h2, rfl, h4⟩
  · obtain ⟨vs, vf, cap, ps, fr, h1, h2, rfl, h4⟩ := h
    exact Foot.lt h1 hj
theorem PoolAt.past {w w' : World} {a : Nat} {F : Nat → Prop} {L : List Pg} (h : PoolAt w a F L) (ht : Turn NoBlock w w') : PoolAt w' a F L := (pool_own a F L).kept _ _ _ h ht (fun _ _ h => h)
theorem PoolAt.lt {w : World} {a : Nat} {F : Nat → Prop} {L : List Pg} (h : PoolAt w a F L) {j : Nat} (hj : F j) : j < w.heap.size := (pool_own a F L).lt _ h j hj
theorem PoolAt.len {w : World} {a : Nat} {F : Nat → Prop} {L : List Pg} (h : PoolAt w a F L) : L.length ≤ 65536 := by
  obtain ⟨vs, vf, cap, ps, fr, h1, h2, rfl, rfl⟩ := h
  rw [padP_len h2.len]; exact h2.top

theorem new_yes (n : Nat) (w : World) (h' : n ≤ 65536) :
    Calls Try.prog 48 #[.int .i64 n] w fun e w' => e = .returned (.pointer (some ⟨w.heap.size, 0, none⟩)) ∧
      ∃ F, PoolAt w' w.heap.size F (List.replicate n Pg.none) ∧ Turn NoBlock w w' ∧ ∀ k, F k → w.heap.size ≤ k := by
  refine (new_raw n w h').mono ?_
  rintro e w' ⟨rfl, rfl⟩
  refine ⟨rfl, _, ⟨.slice none 0 0, .slice none 0 0, n, [], [], ⟨heap_alloc_new w _, World.ownsRow_nil _ _ _ _, World.ownsRow_nil _ _ _ _, fun _ _ h => by simp at h⟩, POK.new n h', rfl, by simp [padP]⟩, (Turn.refl _ w).alloc _, ?_⟩
  intro k hk
  rcases hk with rfl | hk | hk
  · exact Nat.le_refl _
  · simp [Value.ownBlock] at hk
  · simp [Value.ownBlock] at hk

section
variable {w : World} {a cap : Nat} {vs vf : Value} {ps : List Pg} {fr : List Nat}

theorem take_full (h : PMem w a vs vf cap ps []) (hl : ps.length = cap) :
    Calls Try.prog 112 #[.pointer (some ⟨a, 0, none⟩)] w fun e w' => e = .returned (.tuple #[.int .i64 0, .bool false]) ∧ w = w' := by
  obtain ⟨p, c, hvs⟩ := own_slice h.frames
  obtain ⟨p', c', hvf⟩ := own_slice h.freed
  rw [List.length_nil] at hvf
  rw [hl] at hvs
  subst hvs hvf
  have c0 := h.c0
  have c1 := h.c1
  have c2 := h.c2
  clear h hl
  go_enter Try.func112, Try.ntmps112
  go_wp2
  go_ret2
  exact ⟨rfl, rfl⟩

theorem sized_push {ps : List Pg} (h : Sized ps) : Sized (ps ++ [Pg.none]) := fun k p hk => by
  by_cases hlt : k < ps.length
  · rw [List.getElem?_append_left hlt] at hk; exact h k p hk
  · rw [List.getElem?_append_right (by omega)] at hk
    by_cases e : k = ps.length
    · subst e; simp at hk; rw [← hk]; rfl
    · rw [List.getElem?_eq_none (by simp; omega)] at hk; simp at hk
/-- A frame that was never taken is laid. -/
theorem PMem.grow {w1 : World} {o : Obj} {g c : Nat} (h : PMem w a vs vf cap ps fr)
    (hown : w1.ownsRow 0 139 65 (.slice (some ⟨g, 0, none⟩) (ps.length + 1) c) (ps.length + 1) (pcells ps ++ Pg.none.cells))
    (hgrow : (w.alloc o).grownBy w1 vs.ownBlock) :
    w1.heap[a]? = some (.cells #[.int .i64 cap, vs, vf] 130 (0, 0)) ∧
    PMem (w1.setCell ⟨a, 1, none⟩ (.slice (some ⟨g, 0, none⟩) (ps.length + 1) c)) a (.slice (some ⟨g, 0, none⟩) (ps.length + 1) c) vf cap (ps ++ [Pg.none]) fr ∧
    Turn (Foot a vs vf) w (w1.setCell ⟨a, 1, none⟩ (.slice (some ⟨g, 0, none⟩) (ps.length + 1) c)) := by
  have hT : Turn (fun k => vs.ownBlock = some k) w w1 := ((Turn.refl _ w).alloc o).grown hgrow (fun k hk => .inl hk)
  have hA := hT.heap h.head (ne_own h.frames h.head (by decide))
  have hne := ne_own hown hA (by decide)
  refine ⟨hA, ⟨?_, ?_, ?_, sized_push h.sized⟩, ?_⟩
  · have := set_at hA 1 (.slice (some ⟨g, 0, none⟩) (ps.length + 1) c)
    simpa using this
  · have := own_past (a := ⟨a, 1, none⟩) hown hne (.slice (some ⟨g, 0, none⟩) (ps.length + 1) c)
    simpa [pcells_push] using this
  · have h4 := hT.own h.freed (fun k hk hk' => ne_own2 h.freed h.frames (by decide) hk hk')
    exact own_past h4 (ne_own h4 hA (by decide)) _
  · exact (hT.mono (fun k hk => .inl (.inr (.inl hk)))).setCell (.inl (.inl rfl)) _

set_option maxHeartbeats 1000000 in
set_option maxRecDepth 100000 in
theorem take_new (h : PMem w a vs vf cap ps []) (hl : ps.length < cap) (hc : cap ≤ 65536) :
    Calls Try.prog 112 #[.pointer (some ⟨a, 0, none⟩)] w fun e w' => e = .returned (.tuple #[.int .i64 ps.length, .bool true]) ∧
      ∃ g c, (vs.ownBlock = some g ∨ w.heap.size ≤ g) ∧ PMem w' a (.slice (some ⟨g, 0, none⟩) (ps.length + 1) c) vf cap (ps ++ [Pg.none]) [] ∧ Turn (Foot a vs vf) w w' := by
  obtain ⟨i, hi, hz0, hz1, hz2⟩ := info_parts info68
  have hso := h.frames
  obtain ⟨p, c, hvs⟩ := own_slice h.frames
  obtain ⟨p', c', hvf⟩ := own_slice h.freed
  rw [List.length_nil] at hvf
  have c0 := h.c0
  have c1 := h.c1
  have c2 := h.c2
  have H2 : Hid (vs = .slice p ps.length c) := hvs
  rw [hvf] at c2
  rw [hvs] at c1 hso
  obtain ⟨xs, hxs⟩ : ∃ xs, pcells ps = xs := ⟨_, rfl⟩
  rw [hxs] at hso
  obtain ⟨n, hn⟩ : ∃ n, ps.length = n := ⟨_, rfl⟩
  rw [hn] at c1 hl hso ⊢
  have H3 : Hid (ps.length = n) := hn
  have H5 : Hid (pcells ps = xs) := hxs
  have H9 : Hid (PMem w a vs vf cap ps []) := h
  clear hvs hvf hxs hn h
  have hne : ((n : Int) == (cap : Int)) = false := by simp; omega
  have q3 : n + 1 ≤ maxLen := by unfold maxLen; omega
  have q4 : (n + 1) * 72 ≤ 140737488355328 := by omega
  obtain ⟨Z, hZ, hZf, hZc⟩ := zero68
  have HZf := Lib.hid (hZf i hz1)
  clear hZf
  have HZ := Lib.hid hZc
  clear hZc
  go_enter Try.func112, Try.ntmps112
  go_upto_region 6 with fail
  go_wp2_with (first
    | (refine wpList_buildSlice rfl 127 139 1 _ rfl Z i zeroPg frames60 hi hz0 (by rw [hz1]; decide) (by rw [hz1]; decide) (by simp only [List.map_toArray, List.map_cons, List.map_nil]; exact HZf.out) ?_)
    | (at_builtin; refine wpList_append_lies _ rfl (.tmp 31) (.tmp 33) 127 rfl 0 139 i _ 65 72 frames60 hi hz0 hz1 hz2 rfl (by decide) (.slice p n c) n xs rfl (World.ownsRow.alloc hso _) ⟨w.heap.size, 0, none⟩ 1 1 Pg.none.cells rfl rfl (fun j u hu => World.news_of_block (heap_alloc_new w _) j u (by rw [← hu, ← HZ.out])) (Pg.cells_one _) (by decide) q3 q4 (Nat.zero_le _) (w.heap.size + 1) (by simp) ?_; intro g c1' w1 hown hgrow hat hlt; obtain ⟨hA, hB, hC⟩ := PMem.grow H9.out (by rw [H3.out, H5.out]; exact hown) (by rw [H2.out, H3.out]; exact hgrow); rw [H2.out, H3.out] at hA; have d1 := cell_at hA 1; have d2 := free_at hA 1; simp at d1; have G1 := Lib.hid (And.intro hB (And.intro hC hat)); clear hown hgrow hat hA hB hC))
  go_ret2
  refine ⟨rfl, g, c1', ?_, by rw [← H3.out]; exact G1.out.1, by rw [← H3.out]; exact G1.out.2.1⟩
  rw [H2.out, H3.out]
  rcases G1.out.2.2 with hg | hg
  · exact .inl hg
  · right
    omega

theorem take_freed {g n c : Nat} (h : PMem w a vs (.slice (some ⟨g, 0, none⟩) (n + 1) c) cap ps fr) (hn : n ≤ 65537) (hh : IsHeap fr) :
    Calls Try.prog 112 #[.pointer (some ⟨a, 0, none⟩)] w fun e w' => e = .returned (.tuple #[.int .i64 (fr.getD 0 0 : Nat), .bool true]) ∧
      ∃ fr', PMem w' a vs (.slice (some ⟨g, 0, none⟩) n c) cap ps fr' ∧ (fr' ++ [fr.getD 0 0]).Perm fr ∧ IsHeap fr' ∧ Turn (Foot a vs (.slice (some ⟨g, 0, none⟩) (n + 1) c)) w w' := by
  have hlen : fr.length = n + 1 := by
    obtain ⟨_, _, he⟩ := own_slice h.freed
    simp at he
    exact he.2.1.symm
  have hLV := h.low
  have hL : LowW w ⟨a, 2, none⟩ g (n + 1) c fr := ⟨hLV.cell, hLV.free, by have := hLV.own; rw [hlen] at this; exact this, by have := hLV.ne; simp [Value.ownBlock] at this; exact fun e => this e.symm⟩
  have c1 := hpop_any hL hn hh
  have c2 := h.c2
  have ta := tassert
  have HH := Lib.hid h
  generalize ((fr.getD 0 0 : Nat) : Int) = x at *
  clear h hLV hL hh hlen
  go_enter Try.func112, Try.ntmps112
  go_wp2_with (go_at_call 126; (with_reducible refine c1.mono ?_); rintro e w1 ⟨rfl, fr', hL1, hP1, hI1, hT1, hK1⟩; have K1 := Lib.hid (And.intro hL1 (And.intro hP1 (And.intro hI1 (And.intro hT1 hK1)))); clear hL1 hP1 hI1 hT1 hK1)
  go_ret2
  obtain ⟨hL1, hP1, hI1, hT1, hK1⟩ := K1.out
  refine ⟨rfl, fr', ?_, hP1, hI1, hT1.mono (fun b hb => .inl ?_)⟩
  · exact PMem.freedNew HH.out hL1 hT1 (fun k hk => by rcases hk with hk | hk; exact .inl hk; exact .inr (.inr hk)) (.inl rfl) hK1
  · rcases hb with hb | hb
    · exact .inl hb
    · exact .inr (.inr (by rw [hb]; rfl))

theorem nodup_len : ∀ (n : Nat) (l : List Nat), l.Nodup → (∀ x ∈ l, x < n) → l.length ≤ n
  | 0, l, _, h => by
    cases l with
    | nil => simp
    | cons x l => have := h x (by simp); omega
  | n + 1, l, hn, h => by
    by_cases hm : n ∈ l
    · have h1 := nodup_len n (l.erase n) (hn.erase _) (fun x hx => by
        have h2 := h x (List.mem_of_mem_erase hx)
        have h3 : x ≠ n := fun e => by subst e; exact (List.Nodup.not_mem_erase hn) hx
        omega)
      rw [List.length_erase_of_mem hm] at h1
      omega
    · have h1 := nodup_len n l hn (fun x hx => by
        have h2 := h x hx
        have h3 : x ≠ n := fun e => hm (e ▸ hx)
        omega)
      omega
/-- A place is taken. -/
theorem take_some (h : PMem w a vs vf cap ps fr) (ok : POK cap ps fr) (hne : ¬ (fr = [] ∧ ps.length = cap)) :
    ∃ k : Nat, k < cap ∧ lowOf (padP cap ps) = k ∧
      Calls Try.prog 112 #[.pointer (some ⟨a, 0, none⟩)] w fun e w' => e = .returned (.tuple #[.int .i64 k, .bool true]) ∧
        ∃ vs1 vf1 ps1 fr1, PMem w' a vs1 vf1 cap ps1 fr1 ∧ Turn (Foot a vs vf) w w' ∧ (∀ j, Foot a vs1 vf1 j → Foot a vs vf j ∨ w.heap.size ≤ j) ∧ k < ps1.length ∧
          ∃ p0, ps1[k]? = some p0 ∧ p0.bytes = blank ∧ ∀ (p : Pg), p.users ≠ 0 → POK cap (ps1.set k p) fr1 ∧ padP cap (ps1.set k p) = (padP cap ps).set k p := by
  have hlen := ok.len
  by_cases hf : fr = []
  · subst hf
    have hl : ps.length < cap := by
      have : ¬ ps.length = cap := fun e => hne ⟨rfl, e⟩
      omega
    refine ⟨ps.length, hl, low_new ok hl, (take_new h hl ok.top).mono ?_⟩
    rintro e w' ⟨rfl, g, c, hg, hM, hT⟩
    refine ⟨rfl, _, _, _, _, hM, hT, ?_, by simp, Pg.none, by simp, rfl, fun p hp => ⟨ok_new ok hl hp, padP_push p hl⟩⟩
    intro j hj
    rcases hj with hj | hj | hj
    · exact .inl (.inl hj)
    · simp [Value.ownBlock] at hj
      subst hj
      rcases hg with hg | hg
      · exact .inl (.inr (.inl hg))
      · exact .inr hg
    · exact .inl (.inr (.inr hj))
  · have hpos : 0 < fr.length := by
      cases fr with
      | nil => exact absurd rfl hf
      | cons x l => simp
    obtain ⟨h1, h2⟩ := low_freed ok hpos
    have hpf := List.getElem?_eq_getElem h2
    have hpf0 : (ps[fr.getD 0 0]).bytes = blank := by
      have hm : fr.getD 0 0 ∈ fr := by
        cases fr with
        | nil => simp at hpos
        | cons x l => simp [List.getD]
      obtain ⟨q, hq, h0⟩ := (ok.free _).1 hm
      have he := ok.empty _ q hq h0
      rw [hpf] at hq
      simp only [Option.some.injEq] at hq
      rw [hq, he]; rfl
    obtain ⟨g, c, rfl, hc, hc'⟩ := own_shape h.freed hpos
    obtain ⟨n, hn⟩ : ∃ n, fr.length = n + 1 := ⟨fr.length - 1, by omega⟩
    rw [hn] at h
    have hsz : n ≤ 65537 := by
      have h3 : fr.length ≤ 65537 := by
        have hs : ∀ k ∈ fr, k < ps.length := fun k hk => by
          obtain ⟨p, hp, _⟩ := (ok.free k).1 hk
          exact (List.getElem?_eq_some_iff.1 hp).1
        have h4 := nodup_len ps.length fr ok.once hs
        have := ok.top
        omega
      omega
    refine ⟨fr.getD 0 0, by omega, h1, (take_freed h hsz ok.heap).mono ?_⟩
    rintro e w' ⟨rfl, fr', hM, hP, hI, hT⟩
    rw [hn]
    refine ⟨rfl, _, _, _, _, hM, hT, ?_, h2, _, hpf, hpf0, fun p hp => ⟨ok_freed ok hP hI hp, padP_set p h2⟩⟩
    intro j hj
    rcases hj with hj | hj | hj
    · exact .inl (.inl hj)
    · exact .inl (.inr (.inl hj))
    · exact .inl (.inr (.inr (by simpa [Value.ownBlock] using hj)))

theorem one_cell (w : World) (g o : Nat) (v : Value) : w.setCells g o [v] = w.setCell ⟨g, o, none⟩ v := rfl
theorem put_users (p : Pg) (n : Nat) : putAt p.cells 0 [.int .i64 (n : Int)] = Pg.cells ⟨n, p.bytes⟩ := by simp [putAt, Pg.cells]

def allocV (L : List Pg) : Int := if lowOf L < L.length then lowOf L else 0
def allocS (L : List Pg) : Int := if lowOf L < L.length then 0 else -4
def allocL (L : List Pg) : List Pg := if lowOf L < L.length then L.set (lowOf L) ⟨1, blank⟩ else L

theorem alloc_full (h : PMem w a vs vf cap ps []) (hl : ps.length = cap) :
    Calls Try.prog 100 #[.pointer (some ⟨a, 0, none⟩)] w fun e w' => e = .returned (.tuple #[.int .i64 0, .int .i64 (-4)]) ∧ w = w' := by
  have c1 := take_full h hl
  clear h
  go_enter Try.func100, Try.ntmps100
  go_wp2_with (go_at_call 112; (with_reducible refine c1.mono ?_); rintro e w' ⟨rfl, rfl⟩)
  go_ret2
  exact ⟨rfl, rfl⟩

set_option maxRecDepth 20000 in
set_option maxHeartbeats 1000000 in
theorem alloc_some (h : PMem w a vs vf cap ps fr) (ok : POK cap ps fr) (hne : ¬ (fr = [] ∧ ps.length = cap)) :
    ∃ k : Nat, k < cap ∧ lowOf (padP cap ps) = k ∧
      Calls Try.prog 100 #[.pointer (some ⟨a, 0, none⟩)] w fun x w' => x = .returned (.tuple #[.int .i64 k, .int .i64 0]) ∧
        ∃ F', PoolAt w' a F' ((padP cap ps).set k ⟨1, blank⟩) ∧ Turn (Foot a vs vf) w w' ∧ (∀ j, F' j → Foot a vs vf j ∨ w.heap.size ≤ j) := by
  obtain ⟨k, hk, hlow, c1⟩ := take_some h ok hne
  refine ⟨k, hk, hlow, ?_⟩
  have hk' : k < 65536 := by have := ok.top; omega
  clear h ok hne hlow
  go_enter Try.func100, Try.ntmps100
  go_wp2_with (go_at_call 112; (with_reducible refine c1.mono ?_); rintro x w1 ⟨rfl, vs1, vf1, ps1, fr1, hM, hT, hsub, hlt, p0, hp0, hb0, hput⟩; obtain ⟨g, c, rfl, g1, g2, g3, g4, g5, g6, -, -, -, g10⟩ := hM.page hp0; have d1 := hM.c1; have HM := Lib.hid (And.intro (hM.put (o := 0) (cs := [.int .i64 ((1 : Nat) : Int)]) ⟨1, p0.bytes⟩ hp0 (hM.sized k p0 hp0) (by simp) (put_users p0 1)) (And.intro hT (And.intro hsub (And.intro hb0 (hput ⟨1, blank⟩ (by decide)))))); generalize ps1.length = N at *; clear hM hT hsub hput hp0 hb0)
  go_ret2
  obtain ⟨⟨hM, hT2⟩, hT, hsub, hb0, hP1, hP2⟩ := HM.out
  rw [hb0] at hM
  refine ⟨rfl, Foot a (.slice (some ⟨g, 0, none⟩) N c) vf1, ⟨_, _, cap, _, fr1, hM, hP1, rfl, hP2.symm⟩, ?_, hsub⟩
  exact hT.trans hT2 (fun b hb => by subst hb; exact hsub b (.inr (.inl rfl)))

theorem alloc_any {F : Nat → Prop} {L : List Pg} (h : PoolAt w a F L) :
    Calls Try.prog 100 #[.pointer (some ⟨a, 0, none⟩)] w fun x w' => x = .returned (.tuple #[.int .i64 (allocV L), .int .i64 (allocS L)]) ∧
      ∃ F', PoolAt w' a F' (allocL L) ∧ Turn F w w' ∧ ∀ j, F' j → F j ∨ w.heap.size ≤ j := by
  obtain ⟨vs, vf, cap, ps, fr, hM, ok, rfl, rfl⟩ := h
  have hlen := padP_len (cap := cap) ok.len
  unfold allocV allocS allocL
  rw [hlen]
  by_cases hne : fr = [] ∧ ps.length = cap
  · obtain ⟨rfl, hl⟩ := hne
    have hlow := low_full ok hl
    rw [hlow, if_neg (by omega), if_neg (by omega), if_neg (by omega)]
    refine (alloc_full hM hl).mono ?_
    rintro x w' ⟨rfl, rfl⟩
    exact ⟨rfl, _, ⟨_, _, cap, _, _, hM, ok, rfl, rfl⟩, Turn.refl _ _, fun j hj => .inl hj⟩
  · obtain ⟨k, hk, hlow, c⟩ := alloc_some hM ok hne
    rw [hlow, if_pos hk, if_pos hk, if_pos hk]
    exact c
end
end Go.Proofs.Ytdddmjdlikjedaa

/-
  What Users, within, Share of a pool answer, and what Share makes of its frames; whether a range lies within a size. No conditions but that the pool is one that calls can make, and that numbers are numbers of 64 bits.
-/
namespace Go.Proofs.Ytdddmjdlikjedaa
open Go.ChangeShapes Go.WideShapes Go.ChangeAt Go.RowKit

def pgAt (L : List Pg) (f : Int) : Pg := if 0 ≤ f ∧ f < L.length then L.getD f.toNat Pg.none else Pg.none
def usersL (L : List Pg) (f : Int) : Nat := (pgAt L f).users
theorem pgAt_nat (L : List Pg) (k : Nat) : pgAt L (k : Int) = L.getD k Pg.none := by
  unfold pgAt
  by_cases h : k < L.length
  · rw [if_pos ⟨by omega, by omega⟩, Int.toNat_natCast]
  · rw [if_neg (by omega), List.getD_eq_getElem?_getD, List.getElem?_eq_none (by omega)]; rfl
theorem pgAt_neg (L : List Pg) {f : Int} (h : f < 0) : pgAt L f = Pg.none := by unfold pgAt; rw [if_neg (by omega)]
theorem padP_getD {cap : Nat} {ps : List Pg} (k : Nat) : (padP cap ps).getD k Pg.none = ps.getD k Pg.none := by
  unfold padP
  simp only [List.getD_eq_getElem?_getD]
  by_cases h : k < ps.length
  · rw [List.getElem?_append_left h]
  · rw [List.getElem?_append_right (by omega), List.getElem?_replicate, List.getElem?_eq_none (by omega)]
    split <;> rfl
theorem pgAt_pad (cap : Nat) (ps : List Pg) (f : Int) : pgAt (padP cap ps) f = pgAt ps f := by
  by_cases h : f < 0
  · rw [pgAt_neg _ h, pgAt_neg _ h]
  · obtain ⟨k, rfl⟩ : ∃ k : Nat, f = k := ⟨f.toNat, by omega⟩
    rw [pgAt_nat, pgAt_nat, padP_getD]

section
variable {w : World} {a cap : Nat} {vs vf : Value} {ps : List Pg} {fr : List Nat}
theorem users_mem (h : PMem w a vs vf cap ps fr) (f : Int) :
    Calls Try.prog 83 #[.pointer (some ⟨a, 0, none⟩), .int .i64 f] w fun e w' => e = .returned (.int .i64 (usersL ps f)) ∧ w = w' := by
  unfold usersL
  by_cases h0 : f < 0
  · rw [pgAt_neg _ h0]
    clear h
    go_enter Try.func83, Try.ntmps83
    go_wp2
    go_ret
    exact ⟨rfl, rfl⟩
  · obtain ⟨k, rfl⟩ : ∃ k : Nat, f = k := ⟨f.toNat, by omega⟩
    rw [pgAt_nat]
    by_cases hlt : k < ps.length
    · obtain ⟨p, hp⟩ : ∃ p, ps[k]? = some p := ⟨_, List.getElem?_eq_getElem hlt⟩
      obtain ⟨g, c, rfl, g1, g2, g3, g4, g5, g6, -, -, -, g10⟩ := h.page hp
      have d1 := h.c1
      have hg : ps.getD k Pg.none = p := by simp [List.getD, hp]
      rw [hg]
      generalize ps.length = n at *
      clear h hp hg h0
      go_enter Try.func83, Try.ntmps83
      go_wp2
      go_ret
      exact ⟨rfl, rfl⟩
    · have hg : ps.getD k Pg.none = Pg.none := by rw [List.getD_eq_getElem?_getD, List.getElem?_eq_none (by omega)]; rfl
      rw [hg]
      obtain ⟨p, c, rfl⟩ := own_slice h.frames
      have d1 := h.c1
      generalize ps.length = n at *
      clear h hg
      go_enter Try.func83, Try.ntmps83
      go_wp2
      go_ret
      exact ⟨rfl, rfl⟩
end
theorem users_any {w : World} {a : Nat} {F : Nat → Prop} {L : List Pg} (h : PoolAt w a F L) (f : Int) :
    Calls Try.prog 83 #[.pointer (some ⟨a, 0, none⟩), .int .i64 f] w fun e w' => e = .returned (.int .i64 (usersL L f)) ∧ w = w' := by
  obtain ⟨vs, vf, cap, ps, fr, hM, ok, rfl, rfl⟩ := h
  unfold usersL
  rw [pgAt_pad]
  exact users_mem hM f

theorem min_law2 (a b : Int) : ∃ m : Int, (∀ (ts : Array TypeId) (t : TypeId) (w : World), (Builtin.min_ ts t #[.int .i64 a, .int .i64 b]).run Try.prog w = .ok (.int .i64 m) w) ∧ (0 ≤ m ↔ 0 ≤ a ∧ 0 ≤ b) := by
  refine ⟨_, fun ts t w => by simp [Builtin.min_, Builtin.min2]; rfl, ?_⟩
  split <;> omega
/-- Does a range lie within 64? -/
def inB (at' n : Int) : Bool := decide (0 ≤ at' ∧ 0 ≤ n ∧ at' ≤ 64 ∧ n ≤ 64 - at')
theorem within64 (b n : Int) (w : World) :
    Calls Try.prog 52 #[.int .i64 b, .int .i64 n, .int .i64 64] w fun e w' => e = .returned (.bool (inB b n)) ∧ w = w' := by
  obtain ⟨m, hm, hm0⟩ := min_law2 b n
  have hc : (¬ 0 ≤ m ∧ inB b n = false) ∨ (0 ≤ m ∧ 64 < b ∧ inB b n = false) ∨ (0 ≤ m ∧ 0 ≤ b ∧ b ≤ 64 ∧ 64 - b < n ∧ inB b n = false) ∨ (0 ≤ m ∧ 0 ≤ b ∧ b ≤ 64 ∧ n ≤ 64 - b ∧ inB b n = true) := by
    unfold inB
    by_cases h : 0 ≤ m
    · obtain ⟨h1, h2⟩ := hm0.1 h
      by_cases h3 : 64 < b
      · exact .inr (.inl ⟨h, h3, decide_eq_false (by omega)⟩)
      · by_cases h4 : 64 - b < n
        · exact .inr (.inr (.inl ⟨h, h1, by omega, h4, decide_eq_false (by omega)⟩))
        · exact .inr (.inr (.inr ⟨h, h1, by omega, by omega, decide_eq_true (by omega)⟩))
    · exact .inl ⟨h, decide_eq_false (fun hh => h (hm0.2 ⟨hh.1, hh.2.1⟩))⟩
  clear hm0
  rcases hc with ⟨h1, h2⟩ | ⟨h1, h3, h2⟩ | ⟨h1, h3, h4, h5, h2⟩ | ⟨h1, h3, h4, h5, h2⟩
  all_goals
    rw [h2]
    clear h2
    go_enter Try.func52, Try.ntmps52
    go_wp2
    go_ret
    first | exact ⟨rfl, rfl⟩ | exact ⟨ret_bool (decide_eq_false (by omega)), rfl⟩ | exact ⟨ret_bool (decide_eq_true (by omega)), rfl⟩

def withinS (L : List Pg) (f b n : Int) : Int := if usersL L f = 0 then -25 else if inB b n = true then 0 else -14
theorem within_any {w : World} {a : Nat} {F : Nat → Prop} {L : List Pg} (h : PoolAt w a F L) (f b n : Int) :
    Calls Try.prog 82 #[.pointer (some ⟨a, 0, none⟩), .int .i64 f, .int .i64 b, .int .i64 n] w fun e w' => e = .returned (.int .i64 (withinS L f b n)) ∧ w = w' := by
  have c1 := users_any h f
  have c2 := within64 b n
  unfold withinS
  clear h
  by_cases h0 : usersL L f = 0
  · rw [h0] at c1
    rw [if_pos h0]
    clear h0
    go_enter Try.func82, Try.ntmps82
    go_wp2_with (go_at_call 83; (with_reducible refine c1.mono ?_); rintro e w' ⟨rfl, rfl⟩)
    go_ret
    exact ⟨rfl, rfl⟩
  · rw [if_neg h0]
    have hb : (((usersL L f : Nat) : Int) == 0) = false := by simp; omega
    generalize ((usersL L f : Nat) : Int) = u at *
    clear h0
    rcases hi : inB b n with _ | _
    all_goals
      rw [hi] at c2
      clear hi
      go_enter Try.func82, Try.ntmps82
      go_wp2_with (first | (go_at_call 83; (with_reducible refine c1.mono ?_); rintro e w' ⟨rfl, rfl⟩) | (go_at_call 52; (with_reducible refine (c2 _).mono ?_); rintro e w' ⟨rfl, rfl⟩))
      go_ret
      exact ⟨rfl, rfl⟩
end Go.Proofs.Ytdddmjdlikjedaa

/-
  What Write of a pool answers, and what it makes of its frames. No conditions but that the pool is one that calls can make, and that the bytes lie apart from it.
-/
namespace Go.Proofs.Ytdddmjdlikjedaa
open Go.ChangeShapes Go.WideShapes Go.ChangeAt Go.RowKit

/-- Bytes that can be read, wherever they lie. -/
def Src (W : World) (v : Value) (bs : List UInt8) : Prop :=
  ((∃ p c, v = .slice p 0 c) ∧ bs = []) ∨ ∃ g off c, v = .slice (some ⟨g, off, none⟩) bs.length c ∧ ∀ j, j < bs.length → W.cell? ⟨g, off + j, none⟩ = some (.int .u8 ((bs.getD j 0).toNat : Int))
theorem Src.past {w w' : World} {v : Value} {bs : List UInt8} (h : Src w v bs) (ht : Turn NoBlock w w') : Src w' v bs := by
  rcases h with h | ⟨g, off, c, rfl, hc⟩
  · exact .inl h
  · exact .inr ⟨g, off, c, rfl, fun j hj => ht.cell (hc j hj) (fun h => h)⟩
theorem Src.slice {w : World} {v : Value} {bs : List UInt8} (h : Src w v bs) : ∃ p c, v = .slice p bs.length c := by
  rcases h with ⟨⟨p, c, rfl⟩, rfl⟩ | ⟨g, off, c, rfl, _⟩
  · exact ⟨p, c, rfl⟩
  · exact ⟨_, c, rfl⟩

def putB (l : List UInt8) (o : Nat) (bs : List UInt8) : List UInt8 := l.take o ++ (bs ++ l.drop (o + bs.length))
theorem putB_len {l : List UInt8} {o : Nat} {bs : List UInt8} (h : o + bs.length ≤ l.length) : (putB l o bs).length = l.length := by simp [putB]; omega
theorem put_bytes (p : Pg) (o : Nat) (bs : List UInt8) : putAt p.cells (1 + o) (bcells bs) = Pg.cells ⟨p.users, putB p.bytes o bs⟩ := by
  unfold putAt Pg.cells putB
  rw [Nat.add_comm 1 o, List.take_succ_cons, bcells_len, show o + 1 + bs.length = (o + bs.length) + 1 by omega, List.drop_succ_cons]
  simp [bcells]

def writeS (L : List Pg) (f b n : Int) : Int := if withinS L f b n ≠ 0 then withinS L f b n else if 1 < usersL L f then -20 else 0
def writeL (L : List Pg) (f b : Int) (bs : List UInt8) : List Pg := if writeS L f b bs.length = 0 then L.set f.toNat ⟨usersL L f, putB (pgAt L f).bytes b.toNat bs⟩ else L

section
variable {w : World} {a cap : Nat} {vs vf : Value} {ps : List Pg} {fr : List Nat}
theorem write_no {F : Nat → Prop} {L : List Pg} (h : PoolAt w a F L) (f b : Int) (p : Option Addr) (n c : Nat) (hs : writeS L f b n ≠ 0) :
    Calls Try.prog 56 #[.pointer (some ⟨a, 0, none⟩), .int .i64 f, .int .i64 b, .slice p n c] w fun e w' => e = .returned (.int .i64 (writeS L f b n)) ∧ w = w' := by
  have c1 := within_any h f b n
  have c2 := users_any h f
  clear h
  unfold writeS at hs ⊢
  by_cases h0 : withinS L f b n = 0
  · rw [if_neg (by simpa using h0)] at hs ⊢
    have h1 : 1 < usersL L f := by
      by_cases h1 : 1 < usersL L f
      · exact h1
      · rw [if_neg h1] at hs; simp at hs
    rw [if_pos h1]
    rw [h0] at c1
    have h2 : (1 : Int) < ((usersL L f : Nat) : Int) := by omega
    generalize ((usersL L f : Nat) : Int) = u at *
    clear hs h0 h1
    go_enter Try.func56, Try.ntmps56
    go_wp2_with (first | (go_at_call 82; (with_reducible refine c1.mono ?_); rintro e w' ⟨rfl, rfl⟩) | (go_at_call 83; (with_reducible refine c2.mono ?_); rintro e w' ⟨rfl, rfl⟩))
    go_ret
    exact ⟨rfl, rfl⟩
  · rw [if_pos h0]
    have hb : (withinS L f b n != 0) = true := by simp [h0]
    generalize withinS L f b n = S at *
    clear hs h0 c2
    go_enter Try.func56, Try.ntmps56
    go_wp2_with (go_at_call 82; (with_reducible refine c1.mono ?_); rintro e w' ⟨rfl, rfl⟩)
    go_ret
    exact ⟨rfl, rfl⟩

theorem elem5 : (Try.prog.info? 5).map (·.size) = some 1 := by kernel_rfl
theorem bytes31 : Try.prog.underlying 22 = some (.slice 5) := by kernel_rfl

/-- A slice of a frame's bytes, from a place on. -/
theorem slice_from (g o b : Nat) (hb : b ≤ 64) : ∃ D : Addr, (∀ w, Sem.run Try.prog (Instr.sliceAt 137 (.pointer (some ⟨g, o, none⟩)) (some (.int .i64 (b : Int))) none none) w = .ok (.slice (some D) (64 - b) (64 - b)) w) ∧ (b < 64 → D = ⟨g, o + b, none⟩) := by
  refine ⟨if 64 = b then ⟨g, o, none⟩ else (⟨g, o, none⟩ : Addr).add (b * 1), fun w => ?_, fun h => by rw [if_neg (by omega)]; simp [Addr.add]⟩
  have ht : Try.prog.underlying 137 = some (.array (Try.prog.arrayLen 137) (Try.prog.elem 137)) := by kernel_rfl
  have e64 : Try.prog.arrayLen 137 = 64 := by kernel_rfl
  have hsz : (sizeOf (Try.prog.elem 137)).run Try.prog w = .ok 1 w := by kernel_rfl
  have := run_sliceAt_array_l (P := Try.prog) w 137 ⟨g, o, none⟩ ht .i64 (b : Int) (by omega) (by rw [e64]; omega)
  rw [hsz, e64] at this
  simp only [Result.andThen, Int.toNat_natCast] at this
  exact this
theorem copy_bytes (w : World) (g o b n : Nat) (D : Addr) (sp : Option Addr) (sc : Nat) (bs : List UInt8) (hD : b < 64 → D = ⟨g, o + b, none⟩) (hb : b + n ≤ 64) (hbl : bs.length = n) (hv : Src w (.slice sp n sc) bs)
    (hc : ∀ j, j < 64 → (w.cell? ⟨g, o + j, none⟩).isSome = true) (hf : ∀ j, w.frozen? ⟨g, j, none⟩ = false) :
    ∀ ty, (Builtin.copy_ #[22, 22] ty #[.slice (some D) (64 - b) (64 - b), .slice sp n sc]).run Try.prog w = .ok (goInt n) (w.setCells g (o + b) (bcells bs)) := by
  intro ty
  by_cases h0 : n = 0
  · subst h0
    obtain rfl : bs = [] := List.eq_nil_of_length_eq_zero hbl
    exact run_copy_none (P := Try.prog) w 22 22 ty 5 (some D) sp (64 - b) (64 - b) 0 sc bytes31 elem5 (Nat.zero_min _)
  · rw [hD (by omega)]
    rcases hv with ⟨h1, h2⟩ | ⟨g', off, c, h1, h2⟩
    · subst h2; simp at hbl; omega
    · simp only [Value.slice.injEq] at h1
      obtain ⟨rfl, -, rfl⟩ := h1
      have := run_copy_cells (P := Try.prog) w 22 22 ty 5 g (o + b) (64 - b) (64 - b) ⟨g', off, none⟩ n sc (bcells bs) bytes31 elem5 (by rw [bcells_len, hbl]; exact (Nat.min_eq_left (by omega)).symm) (fun j v hj => ?_) (fun j hj => ?_) (fun j _ => hf _) (bcells_one bs)
      · rw [bcells_len, hbl] at this
        exact this
      · have hlt : j < bs.length := by
          have := (List.getElem?_eq_some_iff.1 hj).1
          rwa [bcells_len] at this
        rw [Addr.add_mid, h2 j hlt, ← hj]
        simp [bcells, List.getD, List.getElem?_eq_getElem hlt]
      · rw [bcells_len, hbl] at hj
        have := hc (b + j) (by omega)
        rwa [← Nat.add_assoc] at this

set_option maxRecDepth 20000 in
theorem write_mem (h : PMem w a vs vf cap ps fr) (ok : POK cap ps fr) (k : Nat) (p : Pg) (hp : ps[k]? = some p) (hu : p.users = 1) (b : Nat) (v : Value) (bs : List UInt8) (hv : Src w v bs) (hb : b + bs.length ≤ 64)
    (c1 : Calls Try.prog 82 #[.pointer (some ⟨a, 0, none⟩), .int .i64 k, .int .i64 b, .int .i64 bs.length] w fun e w' => e = .returned (.int .i64 0) ∧ w = w')
    (c2 : Calls Try.prog 83 #[.pointer (some ⟨a, 0, none⟩), .int .i64 k] w fun e w' => e = .returned (.int .i64 1) ∧ w = w') :
    Calls Try.prog 56 #[.pointer (some ⟨a, 0, none⟩), .int .i64 k, .int .i64 b, v] w fun e w' => e = .returned (.int .i64 0) ∧
      PMem w' a vs vf cap (ps.set k ⟨1, putB p.bytes b bs⟩) fr ∧ Turn (Foot a vs vf) w w' := by
  obtain ⟨g, c, rfl, g1, g2, g3, g4, g5, g6, -, -, g7, g10⟩ := h.page hp
  have d1 := h.c1
  obtain ⟨sp, sc, rfl⟩ := hv.slice
  have hsz := h.sized k p hp
  have HP := Lib.hid (h.put (o := 1 + b) (cs := bcells bs) ⟨p.users, putB p.bytes b bs⟩ hp (by rw [putB_len (by omega)]; exact hsz) (by rw [bcells_len]; omega) (put_bytes p b bs))
  rw [hu] at HP
  have hlen : ps.length ≤ 65536 := by have := ok.len; have := ok.top; omega
  generalize ps.length = N at *
  obtain ⟨n, hbl'⟩ : ∃ n, bs.length = n := ⟨_, rfl⟩
  rw [hbl'] at hb c1 hv ⊢
  clear h ok hp hu hsz
  obtain ⟨D, hsl, hD⟩ := slice_from g (k * 65 + 1) b (by omega)
  have hcp := copy_bytes w g (k * 65 + 1) b n D sp sc bs hD hb hbl' hv (fun j hj => by rw [Nat.add_assoc]; exact g7 (1 + j) (by omega)) g10
  rw [Nat.add_assoc] at hcp
  generalize w.setCells g (k * 65 + (1 + b)) (bcells bs) = W at *
  clear hD hv g7 g10
  go_enter Try.func56, Try.ntmps56
  go_wp2_with (first | (go_at_call 82; (with_reducible refine c1.mono ?_); rintro e w' ⟨rfl, rfl⟩) | (go_at_call 83; (with_reducible refine c2.mono ?_); rintro e w' ⟨rfl, rfl⟩))
  go_ret
  exact ⟨rfl, HP.out.1, HP.out.2.mono (fun j hj => .inl (by subst hj; exact .inr (.inl rfl)))⟩
end
theorem write_any {w : World} {a : Nat} {F : Nat → Prop} {L : List Pg} (h : PoolAt w a F L) (f b : Int) (v : Value) (bs : List UInt8) (hv : Src w v bs) :
    Calls Try.prog 56 #[.pointer (some ⟨a, 0, none⟩), .int .i64 f, .int .i64 b, v] w fun e w' => e = .returned (.int .i64 (writeS L f b bs.length)) ∧ PoolAt w' a F (writeL L f b bs) ∧ Turn F w w' := by
  by_cases hs : writeS L f b bs.length = 0
  · unfold writeL
    rw [if_pos hs, hs]
    have c1 := within_any h f b bs.length
    have c2 := users_any h f
    unfold writeS at hs
    have h0 : withinS L f b bs.length = 0 := by
      by_cases h0 : withinS L f b bs.length = 0
      · exact h0
      · rw [if_pos h0] at hs; exact hs
    rw [if_neg (by simpa using h0)] at hs
    have h1 : ¬ 1 < usersL L f := fun h => by rw [if_pos h] at hs; simp at hs
    have h2 : usersL L f ≠ 0 := fun h => by unfold withinS at h0; rw [if_pos h] at h0; simp at h0
    have h3 : inB b bs.length = true := by
      unfold withinS at h0
      rw [if_neg h2] at h0
      by_cases h3 : inB b bs.length = true
      · exact h3
      · rw [if_neg h3] at h0; simp at h0
    have h4 : usersL L f = 1 := by omega
    unfold inB at h3
    rw [decide_eq_true_iff] at h3
    rw [h0] at c1
    rw [h4] at c2
    obtain ⟨vs, vf, cap, ps, fr, hM, ok, rfl, rfl⟩ := h
    have hf : ¬ f < 0 := fun hf => h2 (by unfold usersL; rw [pgAt_neg _ hf]; rfl)
    obtain ⟨k, rfl⟩ : ∃ k : Nat, f = k := ⟨f.toNat, by omega⟩
    obtain ⟨o, rfl⟩ : ∃ o : Nat, b = o := ⟨b.toNat, by omega⟩
    have hg : pgAt (padP cap ps) k = ps.getD k Pg.none := by rw [pgAt_pad, pgAt_nat]
    have hlt : k < ps.length := by
      rcases Nat.lt_or_ge k ps.length with h | h
      · exact h
      · exfalso
        apply h2
        unfold usersL
        rw [hg, List.getD_eq_getElem?_getD, List.getElem?_eq_none h]; rfl
    obtain ⟨p, hp⟩ : ∃ p, ps[k]? = some p := ⟨_, List.getElem?_eq_getElem hlt⟩
    have hgp : pgAt (padP cap ps) k = p := by rw [hg]; simp [List.getD, hp]
    have hu : p.users = 1 := by unfold usersL at h4; rw [hgp] at h4; exact h4
    rw [hgp, h4, Int.toNat_natCast, Int.toNat_natCast]
    refine (write_mem hM ok k p hp hu o v bs hv (by omega) c1 c2).mono ?_
    rintro e w' ⟨rfl, hW, hT⟩
    exact ⟨rfl, ⟨_, _, cap, _, fr, hW, ok_set ok hp (by omega) (by simp), rfl, (padP_set _ hlt).symm⟩, hT⟩
  · obtain ⟨sp, c, rfl⟩ := hv.slice
    unfold writeL
    rw [if_neg hs]
    refine (write_no h f b sp bs.length c hs).mono ?_
    rintro e w' ⟨rfl, rfl⟩
    exact ⟨rfl, h, Turn.refl _ _⟩
end Go.Proofs.Ytdddmjdlikjedaa

/-
  What Read of a pool answers. No conditions but that the pool is one that calls can make.
-/
namespace Go.Proofs.Ytdddmjdlikjedaa
open Go.ChangeShapes Go.WideShapes Go.ChangeAt Go.RowKit

/-- Bytes in a slice of the call's own. -/
def Byts (v : Value) (bs : List UInt8) (w : World) : Prop := w.ownsRow 0 5 1 v bs.length (bcells bs)
theorem own_byts (v : Value) (bs : List UInt8) : Own (Blk v) (Byts v bs) :=
  ⟨fun _ _ _ h ht hf => ht.own h hf, fun _ h k hk => by obtain ⟨cur, hc⟩ := own_block h hk; exact lt_of_block hc⟩
theorem Byts.src {w : World} {v : Value} {bs : List UInt8} (h : Byts v bs w) : Src w v bs := by
  unfold Byts at h
  rcases h.2 with ⟨rfl, h0⟩ | ⟨g, cap, cur, rfl, _⟩
  · exact .inl ⟨⟨none, 0, rfl⟩, List.eq_nil_of_length_eq_zero h0⟩
  · refine .inr ⟨g, 0, cap, rfl, fun j hj => ?_⟩
    rw [Nat.zero_add, h.cellAt j (by omega)]
    simp [bcells, List.getD, List.getElem?_eq_getElem hj]
theorem info5 : (Try.prog.info? 5).map (fun i => (i.zero, i.size, i.bytes)) = some (some (.int .u8 0), 1, 1) := by kernel_rfl

def readB (L : List Pg) (f b n : Int) : List UInt8 := ((pgAt L f).bytes.drop b.toNat).take n.toNat

section
variable {w : World} {a cap : Nat} {vs vf : Value} {ps : List Pg} {fr : List Nat}
theorem read_no {F : Nat → Prop} {L : List Pg} (h : PoolAt w a F L) (f b n : Int) (hs : withinS L f b n ≠ 0) :
    Calls Try.prog 84 #[.pointer (some ⟨a, 0, none⟩), .int .i64 f, .int .i64 b, .int .i64 n] w fun e w' => e = .returned (.tuple #[.slice none 0 0, .int .i64 (withinS L f b n)]) ∧ w = w' := by
  have c1 := within_any h f b n
  have hb : (withinS L f b n != 0) = true := by simp [hs]
  generalize withinS L f b n = S at *
  clear h hs
  go_enter Try.func84, Try.ntmps84
  go_wp2_with (go_at_call 82; (with_reducible refine c1.mono ?_); rintro e w' ⟨rfl, rfl⟩)
  go_ret2
  exact ⟨rfl, rfl⟩

/-- The bytes of a frame from a place on, in new memory. -/
theorem copy_out (w : World) (g o b n gd : Nat) (D : Addr) (pb rs : List UInt8) (xs : List Value) (hD : b < 64 → D = ⟨g, o + b, none⟩) (hb : b + n ≤ 64) (hp : pb.length = 64) (hrs : rs = (pb.drop b).take n)
    (hr : w.rangeAt g o (bcells pb)) (hown : w.ownsRow 0 5 1 (.slice (some ⟨gd, 0, none⟩) n n) n xs) :
    ∃ W, (∀ ty, (Builtin.copy_ #[22, 22] ty #[.slice (some ⟨gd, 0, none⟩) n n, .slice (some D) (64 - b) (64 - b)]).run Try.prog w = .ok (goInt n) W) ∧ Byts (.slice (some ⟨gd, 0, none⟩) n n) rs W ∧ Turn (fun j => j = gd) w W := by
  have hl : rs.length = n := by rw [hrs, List.length_take, List.length_drop]; omega
  have hxl := hown.1
  rw [Nat.mul_one] at hxl
  have hput := own_putAt (bcells rs) 0 w xs hown (by rw [bcells_len, hl]; omega)
  have e : putAt xs 0 (bcells rs) = bcells rs := by
    unfold putAt
    rw [List.take_zero, List.nil_append, List.drop_of_length_le (by rw [bcells_len, hl]; omega), List.append_nil]
  rw [e] at hput
  refine ⟨w.setCells gd 0 (bcells rs), fun ty => ?_, by unfold Byts; rw [hl]; exact hput, turn_setCells (F := fun j => j = gd) rfl _ _ _ _ (Turn.refl _ _)⟩
  by_cases h0 : n = 0
  · subst h0
    obtain rfl : rs = [] := List.eq_nil_of_length_eq_zero hl
    exact run_copy_none (P := Try.prog) w 22 22 ty 5 _ _ 0 0 (64 - b) (64 - b) bytes31 elem5 (Nat.min_zero _)
  · have hDe := hD (by omega)
    subst hDe
    have := run_copy_cells (P := Try.prog) w 22 22 ty 5 gd 0 n n ⟨g, o + b, none⟩ (64 - b) (64 - b) (bcells rs) bytes31 elem5 (by rw [bcells_len, hl]; exact (Nat.min_eq_right (by omega)).symm) (fun j v hj => ?_) (fun j hj => ?_) (fun j _ => hown.frozenAt _) (bcells_one rs)
    · rw [bcells_len, hl] at this
      exact this
    · have hlt : j < n := by
        have := (List.getElem?_eq_some_iff.1 hj).1
        rwa [bcells_len, hl] at this
      rw [Addr.add_mid, Nat.add_assoc]
      refine hr (b + j) v ?_
      rw [← hj, hrs]
      simp only [bcells, List.getElem?_map, List.getElem?_take, List.getElem?_drop, if_pos hlt]
    · rw [bcells_len, hl] at hj
      rw [Nat.zero_add, hown.cellAt j (by omega), List.getElem?_eq_getElem (by omega)]; rfl

set_option maxRecDepth 20000 in
theorem read_mem (h : PMem w a vs vf cap ps fr) (k : Nat) (p : Pg) (hp : ps[k]? = some p) (b n : Nat) (hb : b + n ≤ 64)
    (c1 : Calls Try.prog 82 #[.pointer (some ⟨a, 0, none⟩), .int .i64 k, .int .i64 b, .int .i64 n] w fun e w' => e = .returned (.int .i64 0) ∧ w = w') :
    Calls Try.prog 84 #[.pointer (some ⟨a, 0, none⟩), .int .i64 k, .int .i64 b, .int .i64 n] w fun e w' => ∃ v, e = .returned (.tuple #[v, .int .i64 0]) ∧ Byts v ((p.bytes.drop b).take n) w' ∧ (∀ j, Blk v j → w.heap.size ≤ j) ∧ Turn NoBlock w w' := by
  obtain ⟨i, hi, hz0, hz1, hz2⟩ := info_parts info5
  have hsz := h.sized k p hp
  have HM := Lib.hid (fun w' (t : Turn NoBlock w w') => h.past t)
  have HP := Lib.hid hp
  obtain ⟨g, c, rfl, g1, g2, g3, g4, g5, g6, -, -, g7, g10⟩ := h.page hp
  have d1 := h.c1
  obtain ⟨D, hsl, hD⟩ := slice_from g (k * 65 + 1) b (by omega)
  have HD := Lib.hid hD
  have HS := Lib.hid hsz
  have alt := lt_of_block h.head
  obtain ⟨rs, hrs⟩ : ∃ rs, (p.bytes.drop b).take n = rs := ⟨_, rfl⟩
  rw [hrs]
  have HR := Lib.hid hrs
  obtain ⟨N, hNe⟩ : ∃ N, ps.length = N := ⟨_, rfl⟩
  rw [hNe] at HM d1 g1 g2
  clear h hp hsz hD hrs g6 g7 g10 hNe
  have q1 : i.bytes * n ≤ 281474976710656 := by rw [hz2]; omega
  have q2 : n ≤ maxLen := by unfold maxLen; omega
  go_enter Try.func84, Try.ntmps84
  go_wp2_with (first
    | (go_at_call 82; (with_reducible refine c1.mono ?_); rintro e w' ⟨rfl, rfl⟩)
    | (at_make; refine wpList_make_full _ rfl (.tmp 20) (.tmp 20) 22 rfl 0 5 i _ 1 bytes31 hi hz0 hz1 .i64 .i64 _ _ n rfl rfl rfl rfl q1 q2 (Nat.zero_le _) ?_; intro w2 hown hgrow; have T2 := Lib.hid (show Turn NoBlock w w2 from (Turn.refl NoBlock w).grown hgrow (fun k e => by cases e)); have M2 := HM.out w2 T2.out; obtain ⟨_, _, he, -, -, -, -, -, -, -, g9, -, -⟩ := M2.page HP.out; simp only [Value.slice.injEq, Option.some.injEq, Addr.mk.injEq, and_true] at he; obtain ⟨rfl, -, -⟩ := he; have e1 := M2.c1; obtain ⟨W, hcp, hB, hTW⟩ := copy_out w2 g (k * 65 + 1) b n w.heap.size D p.bytes rs _ HD.out hb HS.out HR.out.symm g9 hown; have KW := Lib.hid (And.intro hB hTW); clear hown hgrow M2 g9 hB hTW))
  go_ret2
  refine ⟨_, rfl, KW.out.1, fun j hj => ?_, T2.out.trans KW.out.2 (fun j hj => .inr (by subst hj; exact Nat.le_refl _))⟩
  simp [Blk, Value.ownBlock] at hj
  omega
end

theorem read_any {w : World} {a : Nat} {F : Nat → Prop} {L : List Pg} (h : PoolAt w a F L) (f b n : Int) (hs : withinS L f b n = 0) :
    Calls Try.prog 84 #[.pointer (some ⟨a, 0, none⟩), .int .i64 f, .int .i64 b, .int .i64 n] w fun e w' => ∃ v, e = .returned (.tuple #[v, .int .i64 0]) ∧ Byts v (readB L f b n) w' ∧ (∀ j, Blk v j → w.heap.size ≤ j) ∧ Turn NoBlock w w' := by
  have c1 := within_any h f b n
  rw [hs] at c1
  have h2 : usersL L f ≠ 0 := fun h => by unfold withinS at hs; rw [if_pos h] at hs; simp at hs
  have h3 : inB b n = true := by
    unfold withinS at hs
    rw [if_neg h2] at hs
    by_cases h3 : inB b n = true
    · exact h3
    · rw [if_neg h3] at hs; simp at hs
  unfold inB at h3
  rw [decide_eq_true_iff] at h3
  obtain ⟨vs, vf, cap, ps, fr, hM, ok, rfl, rfl⟩ := h
  have hf : ¬ f < 0 := fun hf => h2 (by unfold usersL; rw [pgAt_neg _ hf]; rfl)
  obtain ⟨k, rfl⟩ : ∃ k : Nat, f = k := ⟨f.toNat, by omega⟩
  obtain ⟨o, rfl⟩ : ∃ o : Nat, b = o := ⟨b.toNat, by omega⟩
  obtain ⟨m, rfl⟩ : ∃ m : Nat, n = m := ⟨n.toNat, by omega⟩
  have hg : pgAt (padP cap ps) k = ps.getD k Pg.none := by rw [pgAt_pad, pgAt_nat]
  have hlt : k < ps.length := by
    rcases Nat.lt_or_ge k ps.length with h | h
    · exact h
    · exfalso
      apply h2
      unfold usersL
      rw [hg, List.getD_eq_getElem?_getD, List.getElem?_eq_none h]; rfl
  obtain ⟨p, hp⟩ : ∃ p, ps[k]? = some p := ⟨_, List.getElem?_eq_getElem hlt⟩
  have hgp : pgAt (padP cap ps) k = p := by rw [hg]; simp [List.getD, hp]
  unfold readB
  rw [hgp, Int.toNat_natCast, Int.toNat_natCast]
  exact read_mem hM k p hp o m (by omega) c1
end Go.Proofs.Ytdddmjdlikjedaa

/-
  What Share and Used of a pool answer, what Share makes of its frames; whether two slices hold the same bytes. No conditions but that the pool is one that calls can make, and no frame has too many users.
-/
namespace Go.Proofs.Ytdddmjdlikjedaa
open Go.ChangeShapes Go.WideShapes Go.ChangeAt Go.RowKit

def shareS (L : List Pg) (f : Int) : Int := if usersL L f = 0 then -25 else 0
def shareL (L : List Pg) (f : Int) : List Pg := if usersL L f = 0 then L else L.set f.toNat ⟨usersL L f + 1, (pgAt L f).bytes⟩

section
variable {w : World} {a cap : Nat} {vs vf : Value} {ps : List Pg} {fr : List Nat}
theorem used_frame {cap : Nat} {ps : List Pg} {f : Int} (h2 : usersL (padP cap ps) f ≠ 0) : ∃ (k : Nat) (p : Pg), f = k ∧ ps[k]? = some p ∧ pgAt (padP cap ps) f = p ∧ p.users ≠ 0 := by
  have hf : ¬ f < 0 := fun hf => h2 (by unfold usersL; rw [pgAt_neg _ hf]; rfl)
  obtain ⟨k, rfl⟩ : ∃ k : Nat, f = k := ⟨f.toNat, by omega⟩
  have hg : pgAt (padP cap ps) k = ps.getD k Pg.none := by rw [pgAt_pad, pgAt_nat]
  have hlt : k < ps.length := by
    rcases Nat.lt_or_ge k ps.length with h | h
    · exact h
    · exfalso
      apply h2
      unfold usersL
      rw [hg, List.getD_eq_getElem?_getD, List.getElem?_eq_none h]; rfl
  obtain ⟨p, hp⟩ : ∃ p, ps[k]? = some p := ⟨_, List.getElem?_eq_getElem hlt⟩
  have hgp : pgAt (padP cap ps) k = p := by rw [hg]; simp [List.getD, hp]
  exact ⟨k, p, rfl, hp, hgp, by unfold usersL at h2; rw [hgp] at h2; exact h2⟩

theorem share_any {F : Nat → Prop} {L : List Pg} (h : PoolAt w a F L) (f : Int) (hm : usersL L f < 4611686018427387904) :
    Calls Try.prog 85 #[.pointer (some ⟨a, 0, none⟩), .int .i64 f] w fun e w' => e = .returned (.int .i64 (shareS L f)) ∧ PoolAt w' a F (shareL L f) ∧ Turn F w w' := by
  have c1 := users_any h f
  unfold shareS shareL
  by_cases h0 : usersL L f = 0
  · rw [if_pos h0, if_pos h0]
    rw [h0] at c1
    have HP := Lib.hid h
    clear h h0
    go_enter Try.func85, Try.ntmps85
    go_wp2_with (go_at_call 83; (with_reducible refine c1.mono ?_); rintro e w' ⟨rfl, rfl⟩)
    go_ret
    exact ⟨rfl, HP.out, Turn.refl _ _⟩
  · rw [if_neg h0, if_neg h0]
    obtain ⟨vs, vf, cap, ps, fr, hM, ok, rfl, rfl⟩ := h
    obtain ⟨k, p, rfl, hp, hgp, hu⟩ := used_frame h0
    have hub : usersL (padP cap ps) k = p.users := by unfold usersL; rw [hgp]
    rw [hgp, hub, Int.toNat_natCast]
    rw [hub] at c1 hm
    have hlt := (List.getElem?_eq_some_iff.1 hp).1
    have hlen : ps.length ≤ 65536 := by have := ok.len; have := ok.top; omega
    obtain ⟨g, c, rfl, g1, g2, g3, g4, g5, g6, -, -, -, g10⟩ := hM.page hp
    have d1 := hM.c1
    have HM := Lib.hid (And.intro (hM.put (o := 0) (cs := [.int .i64 ((p.users + 1 : Nat) : Int)]) ⟨p.users + 1, p.bytes⟩ hp (hM.sized k p hp) (by simp) (put_users p (p.users + 1))) (And.intro (ok_set ok hp hu (q := ⟨p.users + 1, p.bytes⟩) (by simp)) (padP_set (cap := cap) ⟨p.users + 1, p.bytes⟩ hlt)))
    have hb : (((p.users : Nat) : Int) == 0) = false := by simp; omega
    have he : ((p.users + 1 : Nat) : Int) = (p.users : Int) + 1 := by omega
    rw [he] at HM
    generalize p.users = u at *
    generalize ps.length = N at *
    clear h0 hgp hub hp hM ok hu he
    go_enter Try.func85, Try.ntmps85
    go_wp2_with (go_at_call 83; (with_reducible refine c1.mono ?_); rintro e w' ⟨rfl, rfl⟩)
    go_ret
    exact ⟨rfl, ⟨_, _, cap, _, fr, HM.out.1.1, HM.out.2.1, rfl, HM.out.2.2.symm⟩, HM.out.1.2.mono (fun j hj => .inl (by subst hj; exact .inr (.inl rfl)))⟩

/-- How many frames are used. -/
def usedN (L : List Pg) : Nat := (L.filter (fun p => p.users != 0)).length
theorem used_pad (cap : Nat) (ps : List Pg) : usedN (padP cap ps) = usedN ps := by
  unfold usedN padP
  rw [List.filter_append, List.length_append]
  have : (List.replicate (cap - ps.length) Pg.none).filter (fun p => p.users != 0) = [] := by
    rw [List.filter_eq_nil_iff]
    intro p hp
    rw [List.mem_replicate] at hp
    rw [hp.2]
    simp [Pg.none]
  rw [this]; rfl
theorem range_map (ps : List Pg) : (List.range ps.length).map (fun k => ps.getD k Pg.none) = ps := by
  apply List.ext_getElem
  · simp
  · intro i h1 h2
    simp [List.getD, List.getElem?_eq_getElem h2]
theorem free_count (ps : List Pg) (fr : List Nat) (h : ∀ k, k ∈ fr ↔ ∃ p, ps[k]? = some p ∧ p.users = 0) (hn : fr.Nodup) : fr.length + usedN ps = ps.length := by
  have hp : fr.Perm ((List.range ps.length).filter (fun k => !((ps.getD k Pg.none).users != 0))) := by
    rw [List.perm_ext_iff_of_nodup hn ((List.nodup_range).filter _)]
    intro k
    rw [h k, List.mem_filter, List.mem_range]
    constructor
    · rintro ⟨p, hp, h0⟩
      refine ⟨(List.getElem?_eq_some_iff.1 hp).1, ?_⟩
      simp only [List.getD, hp, Option.getD_some]
      simp [h0]
    · rintro ⟨hk, h0⟩
      refine ⟨ps[k], List.getElem?_eq_getElem hk, ?_⟩
      simp only [List.getD, List.getElem?_eq_getElem hk, Option.getD_some] at h0
      simpa using h0
  have h1 : ((List.range ps.length).filter (fun k => !((ps.getD k Pg.none).users != 0))).length = (ps.filter (fun p => !(p.users != 0))).length := by
    conv => rhs; rw [← range_map ps]
    rw [List.filter_map, List.length_map]
    rfl
  rw [hp.length_eq, h1]
  unfold usedN
  have h2 := List.length_eq_countP_add_countP (fun p : Pg => p.users != 0) (l := ps)
  rw [← List.countP_eq_length_filter, ← List.countP_eq_length_filter]
  have h3 : List.countP (fun p : Pg => !(p.users != 0)) ps = List.countP (fun a : Pg => decide ¬(a.users != 0) = true) ps := by
    congr 1
    funext p
    cases (p.users != 0) <;> rfl
  omega
theorem used_any {F : Nat → Prop} {L : List Pg} (h : PoolAt w a F L) :
    Calls Try.prog 86 #[.pointer (some ⟨a, 0, none⟩)] w fun e w' => e = .returned (.int .i64 (usedN L)) ∧ ∃ m, w' = w.drewN m := by
  obtain ⟨vs, vf, cap, ps, fr, hM, ok, rfl, rfl⟩ := h
  rw [used_pad]
  have hc := free_count ps fr ok.free ok.once
  obtain ⟨p, c, rfl⟩ := own_slice hM.frames
  obtain ⟨p', c', rfl⟩ := own_slice hM.freed
  have d1 := hM.c1
  have d2 := hM.c2
  have hlen : ps.length ≤ 65536 := by have := ok.len; have := ok.top; omega
  have hs : (ps.length : Int) - (fr.length : Int) = (usedN ps : Int) := by omega
  have HW := Lib.hid hs
  have hle : (fr.length : Int) ≤ (ps.length : Int) := by omega
  generalize usedN ps = u at *
  generalize ps.length = n at *
  generalize fr.length = m at *
  clear hM ok hs hc
  go_enter Try.func86, Try.ntmps86
  go_wp2
  go_quiet (fail)
  go_wp2
  go_ret
  exact ⟨ret_int HW.out, _, rfl⟩
end

theorem conv_bytes {w : World} {v : Value} {bs : List UInt8} (h : Src w v bs) : (convert 22 9 v).run Try.prog w = .ok (.string ⟨bs.toArray⟩) w := by
  have h5 : Try.prog.underlying 5 = some (.int .u8) := by kernel_rfl
  have h9 : Try.prog.underlying 9 = some .string := by kernel_rfl
  rcases h with ⟨⟨p, c, rfl⟩, rfl⟩ | ⟨g, off, c, rfl, hc⟩
  · cases p with
    | none => exact run_convert_bytes_nil w 22 5 bytes31 h5 0 c 9 h9
    | some a => exact run_convert_bytes_back w 22 9 5 a c [] bytes31 h5 h9 (fun j hj => absurd hj (Nat.not_lt_zero _))
  · refine run_convert_bytes_back w 22 9 5 ⟨g, off, none⟩ c bs bytes31 h5 h9 (fun j hj => ?_)
    rw [Addr.add_mid, hc j hj]
    simp [List.getD, List.getElem?_eq_getElem hj]
theorem same_any (w : World) (va vb : Value) (bs : List UInt8) (ha : Src w va bs) (hb : Src w vb bs) :
    Calls Try.prog 21 #[va, vb] w fun e w' => e = .returned (.bool true) ∧ w = w' := by
  have c1 := conv_bytes ha
  have c2 := conv_bytes hb
  clear ha hb
  go_enter Try.func21, Try.ntmps21
  go_wp2
  go_ret
  exact ⟨rfl, rfl⟩
end Go.Proofs.Ytdddmjdlikjedaa

/-
  What Own of a pool answers, and what it makes of its frames. No conditions but that the pool is one that calls can make, and that no frame has too many users.
-/
namespace Go.Proofs.Ytdddmjdlikjedaa
open Go.ChangeShapes Go.WideShapes Go.ChangeAt Go.RowKit

theorem pad_used {cap k : Nat} {ps : List Pg} {p : Pg} (h : (padP cap ps)[k]? = some p) (hp : p.users ≠ 0) : ps[k]? = some p := by
  unfold padP at h
  by_cases hk : k < ps.length
  · rwa [List.getElem?_append_left hk] at h
  · rw [List.getElem?_append_right (by omega), List.getElem?_replicate] at h
    split at h
    · simp only [Option.some.injEq] at h
      subst h
      exact absurd rfl hp
    · cases h
theorem put_all (p : Pg) (bs : List UInt8) (h : bs.length = 64) (hp : p.bytes.length = 64) : putAt p.cells 1 (bcells bs) = Pg.cells ⟨p.users, bs⟩ := by
  simp only [putAt, Pg.cells, List.take_succ_cons, List.take_zero, bcells_len, h]
  rw [show 1 + 64 = 64 + 1 from rfl, List.drop_succ_cons, List.drop_of_length_le (by rw [bcells_len, hp]; exact Nat.le_refl _)]
  simp
theorem size66 : (Try.prog.info? 137).map (·.size) = some 64 := by kernel_rfl

/-- The bytes of one frame are laid into another one, and the first has a user less. -/
theorem own_step {w1 : World} {a j k : Nat} {F : Nat → Prop} {L : List Pg} {p : Pg} (h1 : PoolAt w1 a F (L.set j ⟨1, blank⟩)) (hj : j < L.length) (hk : L[k]? = some p) (hu : 2 ≤ p.users) (hne : k ≠ j) :
    ∃ g N c cs W1, w1.drew.setCells g (j * 65 + 1) cs = W1 ∧ a ≠ g ∧ w1.cell? ⟨a, 1, none⟩ = some (.slice (some ⟨g, 0, none⟩) N c) ∧ (k : Int) < N ∧ (j : Int) < N ∧ (N : Int) ≤ c ∧ (c : Int) ≤ 9223372036854775807 ∧
      w1.rangeAt g (k * 65 + 1) cs ∧ w1.there g (j * 65 + 1) 64 ∧ cs.length = 64 ∧ (∀ v ∈ cs, v.oneCell' = true) ∧ (Try.prog.info? 137).map (·.size) = some cs.length ∧
      W1.cell? ⟨a, 1, none⟩ = some (.slice (some ⟨g, 0, none⟩) N c) ∧ W1.cell? ⟨g, k * 65, none⟩ = some (.int .i64 (p.users : Int)) ∧ W1.frozen? ⟨g, k * 65, none⟩ = false ∧
      PoolAt (W1.setCell ⟨g, k * 65, none⟩ (.int .i64 ((p.users : Int) - 1))) a F ((L.set j ⟨1, p.bytes⟩).set k ⟨p.users - 1, p.bytes⟩) ∧ Turn F w1 (W1.setCell ⟨g, k * 65, none⟩ (.int .i64 ((p.users : Int) - 1))) := by
  obtain ⟨vs, vf, cap, ps, fr, hM, ok, rfl, hL⟩ := h1
  have hpj : ps[j]? = some ⟨1, blank⟩ := pad_used (cap := cap) (by rw [← hL, List.getElem?_set_self hj]) (by simp)
  have hpk : ps[k]? = some p := pad_used (cap := cap) (by rw [← hL, List.getElem?_set_ne (fun e => hne e.symm)]; exact hk) (by omega)
  have hsk := hM.sized k p hpk
  have hjl := (List.getElem?_eq_some_iff.1 hpj).1
  have hkl := (List.getElem?_eq_some_iff.1 hpk).1
  obtain ⟨g, c, rfl, g1, g2, g3, g4, g5, g6, -, g7, -, -⟩ := hM.page hpk
  obtain ⟨_, _, he, -, -, -, -, -, -, -, -, g8, g9⟩ := hM.page hpj
  simp only [Value.slice.injEq, Option.some.injEq, Addr.mk.injEq, and_true] at he
  obtain ⟨rfl, -, rfl⟩ := he
  have hM1 := hM.drewN 1
  obtain ⟨hM2, t2⟩ := hM1.put (o := 1) (cs := bcells p.bytes) ⟨1, p.bytes⟩ hpj hsk (by rw [bcells_len, hsk]; decide) (put_all ⟨1, blank⟩ p.bytes hsk rfl)
  have hpk2 : (ps.set j ⟨1, p.bytes⟩)[k]? = some p := by rw [List.getElem?_set_ne (fun e => hne e.symm)]; exact hpk
  obtain ⟨_, _, he, -, -, -, -, -, e2, -, -, -, f2⟩ := hM2.page hpk2
  simp only [Value.slice.injEq, Option.some.injEq, Addr.mk.injEq, and_true] at he
  obtain ⟨rfl, -, rfl⟩ := he
  obtain ⟨hM3, t3⟩ := hM2.put (o := 0) (cs := [.int .i64 ((p.users - 1 : Nat) : Int)]) ⟨p.users - 1, p.bytes⟩ hpk2 hsk (by simp) (put_users p (p.users - 1))
  have hsub : ((p.users - 1 : Nat) : Int) = (p.users : Int) - 1 := by omega
  rw [hsub] at hM3 t3
  have ok2 := ok_set (q := ⟨p.users - 1, p.bytes⟩) (ok_set (q := ⟨1, p.bytes⟩) ok hpj (by simp) (by simp)) hpk2 (by omega) (by simp; omega)
  have hF : ∀ b, b = g → Foot a (.slice (some ⟨g, 0, none⟩) ps.length c) vf b := fun b hb => by subst hb; exact .inr (.inl rfl)
  refine ⟨g, ps.length, c, bcells p.bytes, _, rfl, g4, hM.c1, by omega, by omega, by omega, by omega, g7, fun i hi => ⟨?_, g9 _⟩, by rw [bcells_len, hsk], bcells_one _, by rw [size66, bcells_len, hsk], hM2.c1, e2, f2 _, ⟨_, _, cap, _, fr, hM3, ok2, rfl, ?_⟩, ?_⟩
  · have := g8 (1 + i) (by omega)
    rwa [← Nat.add_assoc] at this
  · rw [padP_set _ (by simpa using hkl), padP_set _ hjl, ← hL, List.set_set]
  · exact ((Turn.refl _ w1).drewN 1).trans ((t2.mono (fun b hb => .inl (hF b hb))).trans t3 (fun b hb => .inl (hF b hb))) (fun b hb => .inl hb)

set_option maxRecDepth 20000 in
set_option maxHeartbeats 2000000 in
theorem own_more {w : World} {a : Nat} {F : Nat → Prop} {L : List Pg} (h : PoolAt w a F L) (k : Nat) (p : Pg) (hk : L[k]? = some p) (hu : 2 ≤ p.users) (hm : p.users < 4611686018427387904) (hl : lowOf L < L.length) :
    Calls Try.prog 101 #[.pointer (some ⟨a, 0, none⟩), .int .i64 k] w fun e w' => e = .returned (.tuple #[.int .i64 (lowOf L), .int .i64 0]) ∧
      ∃ F', PoolAt w' a F' ((L.set (lowOf L) ⟨1, p.bytes⟩).set k ⟨p.users - 1, p.bytes⟩) ∧ Turn F w w' ∧ ∀ j, F' j → F j ∨ w.heap.size ≤ j := by
  have c1 := users_any h k
  have c2 := alloc_any h
  have hlen := h.len
  unfold allocV allocS allocL at c2
  rw [if_pos hl, if_pos hl, if_pos hl] at c2
  have hkl := (List.getElem?_eq_some_iff.1 hk).1
  have hpu : usersL L k = p.users := by unfold usersL; rw [pgAt_nat]; simp [List.getD, hk]
  rw [hpu] at c1
  have hne : k ≠ lowOf L := fun e => by
    have := List.findIdx_getElem (p := isFree) (xs := L) (w := hl)
    have e2 : L[lowOf L]? = some p := by rw [← e]; exact hk
    have e3 : L[lowOf L]'hl = p := by rw [List.getElem?_eq_getElem hl] at e2; exact Option.some.inj e2
    unfold lowOf at e3
    rw [e3] at this
    simp [isFree] at this
    omega
  have HS := Lib.hid (fun w1 (F1 : Nat → Prop) (h1 : PoolAt w1 a F1 (L.set (lowOf L) ⟨1, blank⟩)) => own_step h1 hl hk hu hne)
  have b1 : ((p.users : Int) == 0) = false := by simp; omega
  have b2 : ((p.users : Int) == 1) = false := by simp; omega
  generalize lowOf L = j at *
  generalize hpu0 : p.users = u at *
  have hne2 := hne
  have HU := Lib.hid hpu0
  clear h hk hpu hne hpu0
  have hkj : ¬ k * 65 = j * 65 := by omega
  have hun := array66
  have j0 : (0 : Int) ≤ (j : Int) := by omega
  have k0 : (0 : Int) ≤ (k : Int) := by omega
  go_enter Try.func101, Try.ntmps101
  go_wp2_with (first
    | (go_at_call 83; (with_reducible refine c1.mono ?_); rintro e w' ⟨rfl, rfl⟩)
    | (go_at_call 100; (with_reducible refine c2.mono ?_); rintro e w1 ⟨rfl, F1, h1, t1, l1⟩; obtain ⟨g, N, c, cs, W1, hW, hag, d1, g1, g2, g3, g4, hr, hth, hcl, hc1, hci, d2, e2, f2, hfin, tfin⟩ := HS.out w1 F1 h1; have HW := Lib.hid hW; have KD := Lib.hid (And.intro d2 (And.intro e2 f2)); have KF := Lib.hid (And.intro hfin (And.intro tfin (And.intro t1 l1))); clear h1 t1 l1 hfin tfin hW d2 e2 f2))
  go_region_held3 (fun w' => w'.cell? ⟨a, 1, none⟩ = some (.slice (some ⟨g, 0, none⟩) N c) ∧ w'.rangeAt g (k * 65 + 1) cs ∧ w'.there g (j * 65 + 1) 64)
    ((go_split_ands; (try simp only [World.rangeAt_drew, World.there_drew] at *); refine ⟨?_, ?_, ?_⟩ <;> first | assumption | (rw [World.cell?_setCells_out _ _ _ _ _ (fun hb _ => absurd hb hag)]; assumption) | (refine World.rangeAt_setCells_apart (by assumption) _ _ _ (by simp only [List.toList_toArray]; omega)) | (refine World.rangeAt_setCells_apart (by assumption) _ _ _ (by omega)) | (apply World.there_setCells; assumption)))
    (fail)
  rw [HW.out]
  obtain ⟨d2, e2, f2⟩ := KD.out
  clear d1 hr hth hcl hc1 hci hun
  go_wp2
  go_ret2
  obtain ⟨q1, q2, q3, q4⟩ := KF.out
  exact ⟨rfl, F1, q1, q3.trans q2 q4, q4⟩

def ownV (L : List Pg) (f : Int) : Int := if usersL L f = 0 then 0 else if usersL L f = 1 then f else allocV L
def ownS (L : List Pg) (f : Int) : Int := if usersL L f = 0 then -25 else if usersL L f = 1 then 0 else allocS L
def ownL (L : List Pg) (f : Int) : List Pg := if usersL L f ≤ 1 then L else if lowOf L < L.length then (L.set (lowOf L) ⟨1, (pgAt L f).bytes⟩).set f.toNat ⟨usersL L f - 1, (pgAt L f).bytes⟩ else L
theorem pgAt_used {L : List Pg} {f : Int} (h : usersL L f ≠ 0) : ∃ (k : Nat) (p : Pg), f = k ∧ L[k]? = some p ∧ pgAt L f = p := by
  have hf : ¬ f < 0 := fun hf => h (by unfold usersL; rw [pgAt_neg _ hf]; rfl)
  obtain ⟨k, rfl⟩ : ∃ k : Nat, f = k := ⟨f.toNat, by omega⟩
  have hlt : k < L.length := by
    rcases Nat.lt_or_ge k L.length with h' | h'
    · exact h'
    · exfalso
      apply h
      unfold usersL
      rw [pgAt_nat, List.getD_eq_getElem?_getD, List.getElem?_eq_none h']; rfl
  exact ⟨k, L[k], rfl, List.getElem?_eq_getElem hlt, by rw [pgAt_nat]; simp [List.getD, List.getElem?_eq_getElem hlt]⟩

set_option maxRecDepth 20000 in
theorem own_any {w : World} {a : Nat} {F : Nat → Prop} {L : List Pg} (h : PoolAt w a F L) (f : Int) (hm : usersL L f < 4611686018427387904) :
    Calls Try.prog 101 #[.pointer (some ⟨a, 0, none⟩), .int .i64 f] w fun e w' => e = .returned (.tuple #[.int .i64 (ownV L f), .int .i64 (ownS L f)]) ∧
      ∃ F', PoolAt w' a F' (ownL L f) ∧ Turn F w w' ∧ ∀ j, F' j → F j ∨ w.heap.size ≤ j := by
  have c1 := users_any h f
  unfold ownV ownS ownL
  by_cases h0 : usersL L f = 0
  · rw [if_pos h0, if_pos h0, if_pos (by omega)]
    rw [h0] at c1
    have HP := Lib.hid h
    clear h h0 hm
    go_enter Try.func101, Try.ntmps101
    go_wp2_with (go_at_call 83; (with_reducible refine c1.mono ?_); rintro e w' ⟨rfl, rfl⟩)
    go_ret2
    exact ⟨rfl, F, HP.out, Turn.refl _ _, fun j hj => .inl hj⟩
  · by_cases h1 : usersL L f = 1
    · rw [if_neg h0, if_pos h1, if_neg h0, if_pos h1, if_pos (by omega)]
      rw [h1] at c1
      have HP := Lib.hid h
      clear h h0 hm h1
      go_enter Try.func101, Try.ntmps101
      go_wp2_with (go_at_call 83; (with_reducible refine c1.mono ?_); rintro e w' ⟨rfl, rfl⟩)
      go_ret2
      exact ⟨rfl, F, HP.out, Turn.refl _ _, fun j hj => .inl hj⟩
    · rw [if_neg h0, if_neg h1, if_neg h0, if_neg h1, if_neg (by omega)]
      unfold allocV allocS
      by_cases hl : lowOf L < L.length
      · rw [if_pos hl, if_pos hl, if_pos hl]
        obtain ⟨k, p, rfl, hk, hg⟩ := pgAt_used h0
        have hpu : usersL L k = p.users := by unfold usersL; rw [hg]
        rw [hg, hpu, Int.toNat_natCast]
        exact own_more h k p hk (by omega) (by omega) hl
      · rw [if_neg hl, if_neg hl, if_neg hl]
        have c2 := alloc_any h
        unfold allocV allocS allocL at c2
        rw [if_neg hl, if_neg hl, if_neg hl] at c2
        have b1 : ((usersL L f : Int) == 0) = false := by simp; omega
        have b2 : ((usersL L f : Int) == 1) = false := by simp; omega
        generalize (usersL L f : Int) = u at *
        clear h h0 h1 hm hl
        go_enter Try.func101, Try.ntmps101
        go_wp2_with (first
          | (go_at_call 83; (with_reducible refine c1.mono ?_); rintro e w' ⟨rfl, rfl⟩)
          | (go_at_call 100; (with_reducible refine c2.mono ?_); rintro e w1 ⟨rfl, F1, h1, t1, l1⟩; have KF := Lib.hid (And.intro h1 (And.intro t1 l1)); clear h1 t1 l1))
        go_ret2
        exact ⟨rfl, F1, KF.out⟩
end Go.Proofs.Ytdddmjdlikjedaa

/-
  What Room and Release of a pool answer, and what Release makes of its frames. No conditions but that the pool is one that calls can make.
-/
namespace Go.Proofs.Ytdddmjdlikjedaa
open Go.ChangeShapes Go.WideShapes Go.ChangeAt Go.RowKit

set_option maxRecDepth 20000 in
theorem room_any {w : World} {a : Nat} {F : Nat → Prop} {L : List Pg} (h : PoolAt w a F L) :
    Calls Try.prog 61 #[.pointer (some ⟨a, 0, none⟩)] w fun e w' => e = .returned (.int .i64 ((L.length : Int) - usedN L)) ∧ ∃ m, w' = w.drewN m := by
  have c0 := Lib.hid (fun m => used_any (w := w.drewN m) (h.past ((Turn.refl NoBlock w).drewN m)))
  have c00 := used_any h
  obtain ⟨vs, vf, cap, ps, fr, hM, ok, rfl, rfl⟩ := h
  have hle : usedN (padP cap ps) ≤ cap := by
    have := padP_len (cap := cap) ok.len
    unfold usedN
    have h2 := List.length_filter_le (fun p : Pg => p.users != 0) (padP cap ps)
    omega
  rw [padP_len ok.len]
  have htop := ok.top
  have S1 := hM.c0
  have S0 : ∀ m, (w.drewN m).cell? ⟨a, 0, none⟩ = some (.int .i64 cap) := fun m => hM.c0
  generalize usedN (padP cap ps) = u at *
  have HW := Lib.hid (show IntKind.i64.wrap ((cap : Int) - u) = (cap : Int) - u by
    rw [show (cap : Int) - u = ((cap - u : Nat) : Int) by omega]
    exact wrap_nat _ (by omega))
  have hcu : (u : Int) ≤ cap := by omega
  have HC := Lib.hid c00
  clear hM ok hle htop c00
  go_enter Try.func61, Try.ntmps61
  go_wp2_with fail
  go_region_held3 (fun w' => w'.cell? ⟨a, 0, none⟩ = some (.int .i64 cap)) (first | exact S1 | exact S0 _)
    (first | (go_at_call 86; (with_reducible refine HC.out.mono ?_); rintro e w2 ⟨rfl, q, rfl⟩) | (go_at_call 86; (with_reducible refine (c0.out _).mono ?_); rintro e w2 ⟨rfl, q, rfl⟩) | (go_at_call 86; refine (c0.out 1).mono ?_; rintro e w2 ⟨rfl, q, rfl⟩))
  all_goals
    go_wp2
    go_ret
    exact ⟨ret_int HW.out, _, rfl⟩

theorem size68 : (Try.prog.info? 139).map (·.size) = some 65 := by kernel_rfl
theorem none_cells_len : Pg.none.cells.length = 65 := by rw [Pg.cells_len]; rfl
theorem put_none (p : Pg) (h : p.bytes.length = 64) : putAt p.cells 0 Pg.none.cells = Pg.none.cells := by
  unfold putAt
  rw [List.take_zero, List.nil_append, List.drop_of_length_le (by rw [none_cells_len, Pg.cells_len h]; exact Nat.le_refl _), List.append_nil]
set_option maxRecDepth 20000 in
set_option maxHeartbeats 1000000 in
theorem free_mem {w : World} {a cap : Nat} {vs vf : Value} {ps : List Pg} {fr : List Nat} (h : PMem w a vs vf cap ps fr) (k : Nat) (p : Pg) (hp : ps[k]? = some p) (hf : fr.length < 65537) (hh : IsHeap fr) :
    Calls Try.prog 113 #[.pointer (some ⟨a, 0, none⟩), .int .i64 k] w fun e w' => e = .returned (.tuple #[]) ∧
      ∃ vf' fr', PMem w' a vs vf' cap (ps.set k Pg.none) fr' ∧ fr'.Perm (fr ++ [k]) ∧ IsHeap fr' ∧ Turn (Foot a vs vf) w w' ∧ ∀ j, Foot a vs vf' j → Foot a vs vf j ∨ w.heap.size ≤ j := by
  have hsk := h.sized k p hp
  obtain ⟨g, c, rfl, g1, g2, g3, g4, g5, -, -, -, g8, g9⟩ := h.page hp
  obtain ⟨Z, hZ, -, hZc⟩ := zero68
  have hZs : Z.size = 65 := by rw [← Array.length_toList, hZc, none_cells_len]
  have hone : Z.all (·.oneCell') = true := by
    have := all_oneCell_toArray (cs := Z.toList) (by rw [hZc]; exact Pg.cells_one _)
    simpa using this
  obtain ⟨hM1, t1⟩ := h.put (o := 0) (cs := Pg.none.cells) Pg.none hp (by decide) (by rw [none_cells_len]; decide) (put_none p hsk)
  have hth : w.there g (k * 65) Z.size := fun i hi => ⟨g8 i (by omega), g9 _⟩
  have hst : Sem.run Try.prog (Instr.storeAt 139 (.pointer (some ⟨g, k * 65, none⟩)) (.agg Z)) w = .ok () (w.setCells g (k * 65) Pg.none.cells) := by
    have := run_storeAt_mid (P := Try.prog) w g (k * 65) 139 Z hth (by rw [size68, hZs]) hone
    rw [hZc] at this
    exact this
  have hst2 : Sem.run Try.prog (storeVar 139 ⟨g, k * 65, none⟩ (.agg Z)) w = .ok () (w.setCells g (k * 65) Pg.none.cells) := by
    have := run_storeVar_mid (P := Try.prog) w g (k * 65) 139 Z hth (by rw [size68, hZs]) hone
    rw [hZc] at this
    exact this
  have hst3 : Sem.run Try.prog (storeCells ⟨g, k * 65, none⟩ Z.toList 0) w = .ok () (w.setCells g (k * 65) Pg.none.cells) := by
    have := run_storeCells_cells (P := Try.prog) g (k * 65) Z.toList 0 w (fun j hj => by simpa using (hth j (by simpa using hj)).1) (fun j hj => by simpa using (hth j (by simpa using hj)).2) (by rw [hZc]; exact Pg.cells_one _)
    rw [Nat.add_zero, hZc] at this
    rw [hZc]
    exact this
  rw [Nat.add_zero] at hM1 t1
  have c1 := hpush_any hM1.low k hf hh
  have d1 := h.c1
  have HM := Lib.hid (And.intro hM1 t1)
  have HF := Lib.hid (show ∀ j, j = g → Foot a (.slice (some ⟨g, 0, none⟩) ps.length c) vf j from fun j hj => by subst hj; exact .inr (.inl rfl))
  generalize w.setCells g (k * 65) Pg.none.cells = W1 at *
  have kl : (k : Int) < (ps.length : Int) := by omega
  generalize hN : ps.length = N at *
  clear h hp hf hh hM1 t1 hth hone hZc g8 hN
  go_enter Try.func113, Try.ntmps113
  go_wp2_with (go_at_call 127; (with_reducible refine c1.mono ?_); rintro e w1 ⟨rfl, g2, c2, fr2, hL, hP, hI, hT, hg, hK⟩; have KF := Lib.hid (And.intro hL (And.intro hP (And.intro hI (And.intro hT (And.intro hg hK))))); clear hL hP hI hT hg hK)
  go_end0
  obtain ⟨hL, hP, hI, hT, hg, hK⟩ := KF.out
  obtain ⟨hM1, t1⟩ := HM.out
  have hs := t1.size
  refine ⟨rfl, _, fr2, PMem.freedNew hM1 hL hT (fun b hb => ?_) hg hK, hP, hI, ?_, fun j hj => ?_⟩
  · rcases hb with hb | hb
    · exact .inl hb
    · exact .inr (.inl hb)
  · refine (t1.mono (fun b hb => .inl (HF.out b hb))).trans hT (fun b hb => .inl ?_)
    rcases hb with hb | hb
    · exact .inl hb
    · exact .inr (.inr hb)
  · rcases hj with hj | hj | hj
    · exact .inl (.inl hj)
    · exact .inl (.inr (.inl hj))
    · simp [Value.ownBlock] at hj
      subst hj
      rcases hg with hg | hg
      · exact .inl (.inr (.inr hg))
      · exact .inr (by omega)

def relS (L : List Pg) (f : Int) : Int := if usersL L f = 0 then -25 else 0
def relL (L : List Pg) (f : Int) : List Pg := if usersL L f = 0 then L else if usersL L f = 1 then L.set f.toNat Pg.none else L.set f.toNat ⟨usersL L f - 1, (pgAt L f).bytes⟩

set_option maxRecDepth 20000 in
set_option maxHeartbeats 1000000 in
theorem rel_any {w : World} {a : Nat} {F : Nat → Prop} {L : List Pg} (h : PoolAt w a F L) (f : Int) (hm : usersL L f < 4611686018427387904) :
    Calls Try.prog 102 #[.pointer (some ⟨a, 0, none⟩), .int .i64 f] w fun e w' => e = .returned (.int .i64 (relS L f)) ∧
      ∃ F', PoolAt w' a F' (relL L f) ∧ Turn F w w' ∧ ∀ j, F' j → F j ∨ w.heap.size ≤ j := by
  have c1 := users_any h f
  unfold relS relL
  by_cases h0 : usersL L f = 0
  · rw [if_pos h0, if_pos h0]
    rw [h0] at c1
    have HP := Lib.hid h
    clear h h0
    go_enter Try.func102, Try.ntmps102
    go_wp2_with (go_at_call 83; (with_reducible refine c1.mono ?_); rintro e w' ⟨rfl, rfl⟩)
    go_ret
    exact ⟨rfl, F, HP.out, Turn.refl _ _, fun j hj => .inl hj⟩
  · rw [if_neg h0, if_neg h0]
    obtain ⟨vs, vf, cap, ps, fr, hM, ok, rfl, rfl⟩ := h
    obtain ⟨k, p, rfl, hp, hgp, hu⟩ := used_frame h0
    have hub : usersL (padP cap ps) k = p.users := by unfold usersL; rw [hgp]
    rw [hgp, hub, Int.toNat_natCast]
    rw [hub] at c1 hm
    have hsk := hM.sized k p hp
    have hlt := (List.getElem?_eq_some_iff.1 hp).1
    have hlen : ps.length ≤ 65536 := by have := ok.len; have := ok.top; omega
    obtain ⟨g, c, rfl, g1, g2, g3, g4, g5, g6, -, -, -, g10⟩ := hM.page hp
    have d1 := hM.c1
    have hput := hM.put (o := 0) (cs := [.int .i64 ((p.users - 1 : Nat) : Int)]) ⟨p.users - 1, p.bytes⟩ hp hsk (by simp) (put_users p (p.users - 1))
    have hb : (((p.users : Nat) : Int) == 0) = false := by simp; omega
    have he : ((p.users - 1 : Nat) : Int) = (p.users : Int) - 1 := by omega
    rw [he] at hput
    by_cases hu1 : p.users = 1
    · rw [if_pos hu1]
      have hfr : fr.length < 65537 := by
        have := nodup_len ps.length fr ok.once (fun x hx => by
          obtain ⟨q, hq, _⟩ := (ok.free x).1 hx
          exact (List.getElem?_eq_some_iff.1 hq).1)
        omega
      have cF := free_mem hput.1 k ⟨p.users - 1, p.bytes⟩ (by rw [List.getElem?_set_self hlt]) hfr ok.heap
      rw [List.set_set] at cF
      have hw : w.setCells g (k * 65 + 0) [.int .i64 ((p.users : Int) - 1)] = w.setCell ⟨g, k * 65, none⟩ (.int .i64 0) := by rw [hu1]; rfl
      rw [hw] at hput cF
      have HT := Lib.hid hput.2
      have HK := Lib.hid (fun fr' hP hI => And.intro (ok_close (fr' := fr') ok hp hu hP hI) (padP_set (cap := cap) Pg.none hlt))
      have cF := Lib.hid cF
      rw [hu1] at c1 g6
      generalize hN : ps.length = N at *
      clear hu1 h0 hgp hub hp hM ok hu he hput hw hfr
      go_enter Try.func102, Try.ntmps102
      go_wp2_with (first
        | (go_at_call 83; (with_reducible refine c1.mono ?_); rintro e w' ⟨rfl, rfl⟩)
        | (go_at_call 113; (with_reducible refine cF.out.mono ?_); rintro e w2 ⟨rfl, vf2, fr2, hM2, hP2, hI2, hT2, hs2⟩; have K := Lib.hid (And.intro hM2 (And.intro hP2 (And.intro hI2 (And.intro hT2 hs2)))); clear hM2 hP2 hI2 hT2 hs2))
      go_ret
      obtain ⟨hM2, hP2, hI2, hT2, hs2⟩ := K.out
      have hs := HT.out.size
      exact ⟨rfl, _, ⟨_, _, cap, _, fr2, hM2, (HK.out fr2 hP2 hI2).1, rfl, (HK.out fr2 hP2 hI2).2.symm⟩, (HT.out.mono (fun b hb => .inl (by subst hb; exact .inr (.inl rfl)))).trans hT2 (fun b hb => .inl hb), fun j hj => by
        rcases hs2 j hj with h | h
        · exact .inl h
        · exact .inr (by omega)⟩
    · rw [if_neg hu1]
      have HM := Lib.hid (And.intro hput (And.intro (ok_set ok hp hu (q := ⟨p.users - 1, p.bytes⟩) (by simp; omega)) (padP_set (cap := cap) ⟨p.users - 1, p.bytes⟩ hlt)))
      have hb2 : ((p.users : Int) - 1 == 0) = false := by simp; omega
      generalize p.users = u at *
      generalize ps.length = N at *
      clear h0 hgp hub hp hM ok he hput
      go_enter Try.func102, Try.ntmps102
      go_wp2_with (go_at_call 83; (with_reducible refine c1.mono ?_); rintro e w' ⟨rfl, rfl⟩)
      go_ret
      exact ⟨rfl, _, ⟨_, _, cap, _, fr, HM.out.1.1, HM.out.2.1, rfl, HM.out.2.2.symm⟩, HM.out.1.2.mono (fun j hj => .inl (by subst hj; exact .inr (.inl rfl))), fun j hj => .inl hj⟩
end Go.Proofs.Ytdddmjdlikjedaa

/-
  How far a number of calls can come: what is used lies below it, and has at most as many users; counting the frames one after the other. No run of the program in this text.
-/
namespace Go.Proofs.Ytdddmjdlikjedaa
open Go.ChangeShapes Go.WideShapes Go.ChangeAt Go.RowKit

structure Inv (i : Nat) (L : List Pg) : Prop where
  low : ∀ (j : Nat) (p : Pg), i ≤ j → L[j]? = some p → p.users = 0
  few : ∀ (j : Nat) (p : Pg), L[j]? = some p → p.users ≤ i
theorem Inv.start (cap : Nat) : Inv 0 (List.replicate cap Pg.none) := by
  constructor
  all_goals
    intro j p
    intros
    rename_i h
    rw [List.getElem?_replicate] at h
    split at h
    · simp only [Option.some.injEq] at h
      subst h
      simp [Pg.none]
    · cases h
theorem Inv.mono {i : Nat} {L : List Pg} (h : Inv i L) : Inv (i + 1) L := ⟨fun j p a b => h.low j p (by omega) b, fun j p b => by have := h.few j p b; omega⟩
theorem Inv.set {i : Nat} {L : List Pg} (h : Inv i L) (k : Nat) (q : Pg) (hk : k < i) (hq : q.users ≤ i) : Inv i (L.set k q) := by
  constructor
  · intro j p a b
    rw [List.getElem?_set_ne (by omega)] at b
    exact h.low j p a b
  · intro j p b
    by_cases e : k = j
    · subst e
      rw [List.getElem?_set] at b
      simp at b
      rw [← b.2]; exact hq
    · rw [List.getElem?_set_ne e] at b
      exact h.few j p b
theorem Inv.lowOf {i : Nat} {L : List Pg} (h : Inv i L) (hl : lowOf L < L.length) : lowOf L < i + 1 := by
  by_cases hi : i < L.length
  · have h0 := h.low i L[i] (Nat.le_refl _) (List.getElem?_eq_getElem hi)
    have : isFree L[i] = true := by unfold isFree; simp [h0]
    have h2 : L.findIdx isFree ≤ i := by
      rcases Nat.lt_or_ge i (L.findIdx isFree) with h3 | h3
      · have := List.not_of_lt_findIdx h3
        simp_all
      · exact h3
    show L.findIdx isFree < i + 1
    omega
  · omega
theorem Inv.used {i : Nat} {L : List Pg} (h : Inv i L) {f : Int} (hu : usersL L f ≠ 0) : f.toNat < i ∧ usersL L f ≤ i := by
  obtain ⟨k, p, rfl, hk, hg⟩ := pgAt_used hu
  have e : usersL L k = p.users := by unfold usersL; rw [hg]
  rw [e] at hu ⊢
  refine ⟨?_, h.few k p hk⟩
  rw [Int.toNat_natCast]
  rcases Nat.lt_or_ge k i with h1 | h1
  · exact h1
  · exact absurd (h.low k p h1 hk) hu
theorem Inv.alloc {i : Nat} {L : List Pg} (h : Inv i L) : Inv (i + 1) (allocL L) := by
  unfold allocL
  by_cases hl : Go.Proofs.Ytdddmjdlikjedaa.lowOf L < L.length
  · rw [if_pos hl]; exact h.mono.set _ _ (h.lowOf hl) (by show 1 ≤ i + 1; omega)
  · rw [if_neg hl]; exact h.mono
theorem Inv.share {i : Nat} {L : List Pg} (h : Inv i L) (f : Int) : Inv (i + 1) (shareL L f) := by
  unfold shareL
  by_cases hu : usersL L f = 0
  · rw [if_pos hu]; exact h.mono
  · rw [if_neg hu]
    have := h.used hu
    exact h.mono.set _ _ (by omega) (by show _ + 1 ≤ _; omega)
theorem Inv.rel {i : Nat} {L : List Pg} (h : Inv i L) (f : Int) : Inv (i + 1) (relL L f) := by
  unfold relL
  by_cases hu : usersL L f = 0
  · rw [if_pos hu]; exact h.mono
  · rw [if_neg hu]
    have := h.used hu
    split
    · exact h.mono.set _ _ (by omega) (by show 0 ≤ _; omega)
    · exact h.mono.set _ _ (by omega) (by show usersL L f - 1 ≤ _; omega)
theorem Inv.own {i : Nat} {L : List Pg} (h : Inv i L) (f : Int) : Inv (i + 1) (ownL L f) := by
  unfold ownL
  by_cases hu : usersL L f ≤ 1
  · rw [if_pos hu]; exact h.mono
  · rw [if_neg hu]
    have := h.used (f := f) (by omega)
    by_cases hl : Go.Proofs.Ytdddmjdlikjedaa.lowOf L < L.length
    · rw [if_pos hl]
      exact (h.mono.set _ _ (h.lowOf hl) (by show 1 ≤ i + 1; omega)).set _ _ (by omega) (by show usersL L f - 1 ≤ _; omega)
    · rw [if_neg hl]; exact h.mono

/-- How many of the first k frames are used. -/
def cntP (L : List Pg) (k : Nat) : Nat := usedN (L.take k)
theorem cnt_zero (L : List Pg) : cntP L 0 = 0 := rfl
theorem cnt_succ (L : List Pg) (k : Nat) : cntP L (k + 1) = if 0 < usersL L k then cntP L k + 1 else cntP L k := by
  unfold cntP usedN usersL
  rw [pgAt_nat, List.take_add_one, List.filter_append, List.length_append, List.getD_eq_getElem?_getD]
  cases h : L[k]? with
  | none => simp [Pg.none]
  | some p =>
    simp only [Option.toList, Option.getD_some]
    by_cases hp : p.users = 0
    · simp [hp]
    · rw [if_pos (by omega)]; simp [hp]
theorem cnt_all {i : Nat} {L : List Pg} (h : Inv i L) (k : Nat) (hk : i ≤ k) : cntP L k = usedN L := by
  unfold cntP usedN
  conv => rhs; rw [← List.take_append_drop k L]
  rw [List.filter_append, List.length_append]
  have : (L.drop k).filter (fun p => p.users != 0) = [] := by
    rw [List.filter_eq_nil_iff]
    intro p hp
    obtain ⟨j, hj⟩ := List.mem_iff_getElem?.1 hp
    rw [List.getElem?_drop] at hj
    have := h.low _ p (by omega) hj
    simp [this]
  rw [this]; rfl
theorem cnt_le (L : List Pg) (k : Nat) : cntP L k ≤ k := by
  unfold cntP usedN
  have h2 := List.length_filter_le (fun p : Pg => p.users != 0) (L.take k)
  have := List.length_take_le k L
  omega
theorem users_end (L : List Pg) : usersL L (L.length : Int) = 0 := by
  unfold usersL
  rw [pgAt_nat, List.getD_eq_getElem?_getD, List.getElem?_eq_none (Nat.le_refl _)]; rfl
theorem users_neg (L : List Pg) : usersL L (-1) = 0 := by unfold usersL; rw [pgAt_neg _ (by decide)]; rfl
theorem used_len (L : List Pg) : usedN L ≤ L.length := List.length_filter_le _ _
theorem alloc_len (L : List Pg) : (allocL L).length = L.length := by unfold allocL; split <;> simp
theorem share_len (L : List Pg) (f : Int) : (shareL L f).length = L.length := by unfold shareL; split <;> simp
theorem rel_len (L : List Pg) (f : Int) : (relL L f).length = L.length := by unfold relL; split <;> (try split) <;> simp
theorem own_len (L : List Pg) (f : Int) : (ownL L f).length = L.length := by unfold ownL; split <;> (try split) <;> simp
end Go.Proofs.Ytdddmjdlikjedaa

