/-
  What New, take and Alloc of a pool answer, and what they make of its frames. No conditions but that the pool is one that calls can make.
-/
import Derived.Test.YtgcjjgljllephaaPData
import Derived.Great.BuildSlice
import Derived.Deep.DeepCutAuto
namespace Go.Proofs.Ytgcjjgljllephaa
open Go.ChangeShapes Go.WideShapes Go.ChangeAt Go.RowKit

def zeroPg : Value := .agg (#[Value.int .i64 0] ++ Array.replicate 64 (Value.int .u8 0))
theorem info68 : (Try.prog.info? 88).map (fun i => (i.zero, i.size, i.bytes)) = some (some zeroPg, 65, 72) := by kernel_rfl
theorem frames60 : Try.prog.underlying 80 = some (.slice 88) := by kernel_rfl
theorem array66 : Try.prog.underlying 86 = some (.array 64 5) := by kernel_rfl
theorem zero68 : ∃ Z : Array Value, (∀ w, Sem.run Try.prog (zeroValue 88) w = .ok (.agg Z) w) ∧
    (∀ i : TypeInfo, i.size = 65 → Instr.fill (fun k => some (k * i.size, i.size)) ((Array.range (1 * i.size)).map (zeroPg.cells[· % zeroPg.cells.size]!)) [(0, .agg Z)] = some Z) ∧ Z.toList = Pg.none.cells :=
  ⟨#[Value.int .i64 0] ++ Array.replicate 64 (Value.int .u8 0), fun w => by kernel_rfl, fun i h => by rw [h]; kernel_rfl, by kernel_rfl⟩
theorem zero_cells : zeroPg.cells.toList = Pg.none.cells := by kernel_rfl

theorem new_no (n : Int) (w : World) (h : n < 0 ∨ 65536 < n) :
    Calls Try.prog 12 #[.int .i64 n] w fun e w' => e = .returned (.pointer none) ∧ w = w' := by
  rcases h with h | h
  all_goals
    go_enter Try.func12, Try.ntmps12
    go_wp2
    go_ret
    exact ⟨rfl, rfl⟩
theorem new_raw (n : Nat) (w : World) (h' : n ≤ 65536) :
    Calls Try.prog 12 #[.int .i64 n] w fun e w' => e = .returned (.pointer (some ⟨w.heap.size, 0, none⟩)) ∧ w' = w.alloc (.cells #[.int .i64 n, .slice none 0 0, .slice none 0 0] 83) := by
  go_enter Try.func12, Try.ntmps12
  go_wp2
  go_ret
  exact ⟨rfl, rfl⟩

/-- The table at block a: its frames L, its blocks F. -/
def PoolAt (w : World) (a : Nat) (F : Nat → Prop) (L : List Pg) : Prop := ∃ vs vf cap ps fr, PMem w a vs vf cap ps fr ∧ POK cap ps fr ∧ F = Foot a vs vf ∧ L = padP cap ps
theorem pool_own (a : Nat) (F : Nat → Prop) (L : List Pg) : Own F (fun w => PoolAt w a F L) := by
  refine ⟨fun w w' G h ht hf => ?_, fun w h j hj => ?_⟩
  · obtain ⟨vs, vf, cap, ps, fr, h1, h2, rfl, h4⟩ := h
    exact ⟨vs, vf, cap, ps, fr, h1.kept ht hf, h2, rfl, h4⟩
  · obtain ⟨vs, vf, cap, ps, fr, h1, h2, rfl, h4⟩ := h
    exact Foot.lt h1 hj
theorem PoolAt.past {w w' : World} {a : Nat} {F : Nat → Prop} {L : List Pg} (h : PoolAt w a F L) (ht : Turn NoBlock w w') : PoolAt w' a F L := (pool_own a F L).kept _ _ _ h ht (fun _ _ h => h)
theorem PoolAt.lt {w : World} {a : Nat} {F : Nat → Prop} {L : List Pg} (h : PoolAt w a F L) {j : Nat} (hj : F j) : j < w.heap.size := (pool_own a F L).lt _ h j hj
theorem PoolAt.len {w : World} {a : Nat} {F : Nat → Prop} {L : List Pg} (h : PoolAt w a F L) : L.length ≤ 65536 := by
  obtain ⟨vs, vf, cap, ps, fr, h1, h2, rfl, rfl⟩ := h
  rw [padP_len h2.len]; exact h2.top

theorem new_yes (n : Nat) (w : World) (h' : n ≤ 65536) :
    Calls Try.prog 12 #[.int .i64 n] w fun e w' => e = .returned (.pointer (some ⟨w.heap.size, 0, none⟩)) ∧
      ∃ F, PoolAt w' w.heap.size F (List.replicate n Pg.none) ∧ Turn NoBlock w w' ∧ ∀ k, F k → w.heap.size ≤ k := by
  refine (new_raw n w h').mono ?_
  rintro e w' ⟨rfl, rfl⟩
  refine ⟨rfl, _, ⟨.slice none 0 0, .slice none 0 0, n, [], [], ⟨heap_alloc_new w _, World.ownsRow_nil _ _ _ _, World.ownsRow_nil _ _ _ _, fun _ _ h => by simp at h⟩, POK.new n h', rfl, by simp [padP]⟩, (Turn.refl _ w).alloc _, ?_⟩
  intro k hk
  rcases hk with rfl | hk | hk
  · exact Nat.le_refl _
  · simp [Value.ownBlock] at hk
  · simp [Value.ownBlock] at hk

section
variable {w : World} {a cap : Nat} {vs vf : Value} {ps : List Pg} {fr : List Nat}

theorem take_full (h : PMem w a vs vf cap ps []) (hl : ps.length = cap) :
    Calls Try.prog 40 #[.pointer (some ⟨a, 0, none⟩)] w fun e w' => e = .returned (.tuple #[.int .i64 0, .bool false]) ∧ w = w' := by
  obtain ⟨p, c, hvs⟩ := own_slice h.frames
  obtain ⟨p', c', hvf⟩ := own_slice h.freed
  rw [List.length_nil] at hvf
  rw [hl] at hvs
  subst hvs hvf
  have c0 := h.c0
  have c1 := h.c1
  have c2 := h.c2
  clear h hl
  go_enter Try.func40, Try.ntmps40
  go_wp2
  go_ret2
  exact ⟨rfl, rfl⟩

theorem sized_push {ps : List Pg} (h : Sized ps) : Sized (ps ++ [Pg.none]) := fun k p hk => by
  by_cases hlt : k < ps.length
  · rw [List.getElem?_append_left hlt] at hk; exact h k p hk
  · rw [List.getElem?_append_right (by omega)] at hk
    by_cases e : k = ps.length
    · subst e; simp at hk; rw [← hk]; rfl
    · rw [List.getElem?_eq_none (by simp; omega)] at hk; simp at hk
/-- A frame that was never taken is laid. -/
theorem PMem.grow {w1 : World} {o : Obj} {g c : Nat} (h : PMem w a vs vf cap ps fr)
    (hown : w1.ownsRow 0 88 65 (.slice (some ⟨g, 0, none⟩) (ps.length + 1) c) (ps.length + 1) (pcells ps ++ Pg.none.cells))
    (hgrow : (w.alloc o).grownBy w1 vs.ownBlock) :
    w1.heap[a]? = some (.cells #[.int .i64 cap, vs, vf] 83 (0, 0)) ∧
    PMem (w1.setCell ⟨a, 1, none⟩ (.slice (some ⟨g, 0, none⟩) (ps.length + 1) c)) a (.slice (some ⟨g, 0, none⟩) (ps.length + 1) c) vf cap (ps ++ [Pg.none]) fr ∧
    Turn (Foot a vs vf) w (w1.setCell ⟨a, 1, none⟩ (.slice (some ⟨g, 0, none⟩) (ps.length + 1) c)) := by
  have hT : Turn (fun k => vs.ownBlock = some k) w w1 := ((Turn.refl _ w).alloc o).grown hgrow (fun k hk => .inl hk)
  have hA := hT.heap h.head (ne_own h.frames h.head (by decide))
  have hne := ne_own hown hA (by decide)
  refine ⟨hA, ⟨?_, ?_, ?_, sized_push h.sized⟩, ?_⟩
  · have := set_at hA 1 (.slice (some ⟨g, 0, none⟩) (ps.length + 1) c)
    simpa using this
  · have := own_past (a := ⟨a, 1, none⟩) hown hne (.slice (some ⟨g, 0, none⟩) (ps.length + 1) c)
    simpa [pcells_push] using this
  · have h4 := hT.own h.freed (fun k hk hk' => ne_own2 h.freed h.frames (by decide) hk hk')
    exact own_past h4 (ne_own h4 hA (by decide)) _
  · exact (hT.mono (fun k hk => .inl (.inr (.inl hk)))).setCell (.inl (.inl rfl)) _

set_option maxHeartbeats 1000000 in
set_option maxRecDepth 100000 in
theorem take_new (h : PMem w a vs vf cap ps []) (hl : ps.length < cap) (hc : cap ≤ 65536) :
    Calls Try.prog 40 #[.pointer (some ⟨a, 0, none⟩)] w fun e w' => e = .returned (.tuple #[.int .i64 ps.length, .bool true]) ∧
      ∃ g c, (vs.ownBlock = some g ∨ w.heap.size ≤ g) ∧ PMem w' a (.slice (some ⟨g, 0, none⟩) (ps.length + 1) c) vf cap (ps ++ [Pg.none]) [] ∧ Turn (Foot a vs vf) w w' := by
  obtain ⟨i, hi, hz0, hz1, hz2⟩ := info_parts info68
  have hso := h.frames
  obtain ⟨p, c, hvs⟩ := own_slice h.frames
  obtain ⟨p', c', hvf⟩ := own_slice h.freed
  rw [List.length_nil] at hvf
  have c0 := h.c0
  have c1 := h.c1
  have c2 := h.c2
  have H2 : Hid (vs = .slice p ps.length c) := hvs
  rw [hvf] at c2
  rw [hvs] at c1 hso
  obtain ⟨xs, hxs⟩ : ∃ xs, pcells ps = xs := ⟨_, rfl⟩
  rw [hxs] at hso
  obtain ⟨n, hn⟩ : ∃ n, ps.length = n := ⟨_, rfl⟩
  rw [hn] at c1 hl hso ⊢
  have H3 : Hid (ps.length = n) := hn
  have H5 : Hid (pcells ps = xs) := hxs
  have H9 : Hid (PMem w a vs vf cap ps []) := h
  clear hvs hvf hxs hn h
  have hne : ((n : Int) == (cap : Int)) = false := by simp; omega
  have q3 : n + 1 ≤ maxLen := by unfold maxLen; omega
  have q4 : (n + 1) * 72 ≤ 140737488355328 := by omega
  obtain ⟨Z, hZ, hZf, hZc⟩ := zero68
  have HZf := Lib.hid (hZf i hz1)
  clear hZf
  have HZ := Lib.hid hZc
  clear hZc
  go_enter Try.func40, Try.ntmps40
  go_upto_region 6 with fail
  go_wp2_with (first
    | (refine wpList_buildSlice rfl 80 88 1 _ rfl Z i zeroPg frames60 hi hz0 (by rw [hz1]; decide) (by rw [hz1]; decide) (by simp only [List.map_toArray, List.map_cons, List.map_nil]; exact HZf.out) ?_)
    | (at_builtin; refine wpList_append_lies _ rfl (.tmp 31) (.tmp 33) 80 rfl 0 88 i _ 65 72 frames60 hi hz0 hz1 hz2 rfl (by decide) (.slice p n c) n xs rfl (World.ownsRow.alloc hso _) ⟨w.heap.size, 0, none⟩ 1 1 Pg.none.cells rfl rfl (fun j u hu => World.news_of_block (heap_alloc_new w _) j u (by rw [← hu, ← HZ.out])) (Pg.cells_one _) (by decide) q3 q4 (Nat.zero_le _) (w.heap.size + 1) (by simp) ?_; intro g c1' w1 hown hgrow hat hlt; obtain ⟨hA, hB, hC⟩ := PMem.grow H9.out (by rw [H3.out, H5.out]; exact hown) (by rw [H2.out, H3.out]; exact hgrow); rw [H2.out, H3.out] at hA; have d1 := cell_at hA 1; have d2 := free_at hA 1; simp at d1; have G1 := Lib.hid (And.intro hB (And.intro hC hat)); clear hown hgrow hat hA hB hC))
  go_ret2
  refine ⟨rfl, g, c1', ?_, by rw [← H3.out]; exact G1.out.1, by rw [← H3.out]; exact G1.out.2.1⟩
  rw [H2.out, H3.out]
  rcases G1.out.2.2 with hg | hg
  · exact .inl hg
  · right
    omega

theorem take_freed {g n c : Nat} (h : PMem w a vs (.slice (some ⟨g, 0, none⟩) (n + 1) c) cap ps fr) (hn : n ≤ 65537) (hh : IsHeap fr) :
    Calls Try.prog 40 #[.pointer (some ⟨a, 0, none⟩)] w fun e w' => e = .returned (.tuple #[.int .i64 (fr.getD 0 0 : Nat), .bool true]) ∧
      ∃ fr', PMem w' a vs (.slice (some ⟨g, 0, none⟩) n c) cap ps fr' ∧ (fr' ++ [fr.getD 0 0]).Perm fr ∧ IsHeap fr' ∧ Turn (Foot a vs (.slice (some ⟨g, 0, none⟩) (n + 1) c)) w w' := by
  have hlen : fr.length = n + 1 := by
    obtain ⟨_, _, he⟩ := own_slice h.freed
    simp at he
    exact he.2.1.symm
  have hLV := h.low
  have hL : LowW w ⟨a, 2, none⟩ g (n + 1) c fr := ⟨hLV.cell, hLV.free, by have := hLV.own; rw [hlen] at this; exact this, by have := hLV.ne; simp [Value.ownBlock] at this; exact fun e => this e.symm⟩
  have c1 := hpop_any hL hn hh
  have c2 := h.c2
  have ta := tassert
  have HH := Lib.hid h
  generalize ((fr.getD 0 0 : Nat) : Int) = x at *
  clear h hLV hL hh hlen
  go_enter Try.func40, Try.ntmps40
  go_wp2_with (go_at_call 54; (with_reducible refine c1.mono ?_); rintro e w1 ⟨rfl, fr', hL1, hP1, hI1, hT1, hK1⟩; have K1 := Lib.hid (And.intro hL1 (And.intro hP1 (And.intro hI1 (And.intro hT1 hK1)))); clear hL1 hP1 hI1 hT1 hK1)
  go_ret2
  obtain ⟨hL1, hP1, hI1, hT1, hK1⟩ := K1.out
  refine ⟨rfl, fr', ?_, hP1, hI1, hT1.mono (fun b hb => .inl ?_)⟩
  · exact PMem.freedNew HH.out hL1 hT1 (fun k hk => by rcases hk with hk | hk; exact .inl hk; exact .inr (.inr hk)) (.inl rfl) hK1
  · rcases hb with hb | hb
    · exact .inl hb
    · exact .inr (.inr (by rw [hb]; rfl))

theorem nodup_len : ∀ (n : Nat) (l : List Nat), l.Nodup → (∀ x ∈ l, x < n) → l.length ≤ n
  | 0, l, _, h => by
    cases l with
    | nil => simp
    | cons x l => have := h x (by simp); omega
  | n + 1, l, hn, h => by
    by_cases hm : n ∈ l
    · have h1 := nodup_len n (l.erase n) (hn.erase _) (fun x hx => by
        have h2 := h x (List.mem_of_mem_erase hx)
        have h3 : x ≠ n := fun e => by subst e; exact (List.Nodup.not_mem_erase hn) hx
        omega)
      rw [List.length_erase_of_mem hm] at h1
      omega
    · have h1 := nodup_len n l hn (fun x hx => by
        have h2 := h x hx
        have h3 : x ≠ n := fun e => hm (e ▸ hx)
        omega)
      omega
/-- A place is taken. -/
theorem take_some (h : PMem w a vs vf cap ps fr) (ok : POK cap ps fr) (hne : ¬ (fr = [] ∧ ps.length = cap)) :
    ∃ k : Nat, k < cap ∧ lowOf (padP cap ps) = k ∧
      Calls Try.prog 40 #[.pointer (some ⟨a, 0, none⟩)] w fun e w' => e = .returned (.tuple #[.int .i64 k, .bool true]) ∧
        ∃ vs1 vf1 ps1 fr1, PMem w' a vs1 vf1 cap ps1 fr1 ∧ Turn (Foot a vs vf) w w' ∧ (∀ j, Foot a vs1 vf1 j → Foot a vs vf j ∨ w.heap.size ≤ j) ∧ k < ps1.length ∧
          ∃ p0, ps1[k]? = some p0 ∧ p0.bytes = blank ∧ ∀ (p : Pg), p.users ≠ 0 → POK cap (ps1.set k p) fr1 ∧ padP cap (ps1.set k p) = (padP cap ps).set k p := by
  have hlen := ok.len
  by_cases hf : fr = []
  · subst hf
    have hl : ps.length < cap := by
      have : ¬ ps.length = cap := fun e => hne ⟨rfl, e⟩
      omega
    refine ⟨ps.length, hl, low_new ok hl, (take_new h hl ok.top).mono ?_⟩
    rintro e w' ⟨rfl, g, c, hg, hM, hT⟩
    refine ⟨rfl, _, _, _, _, hM, hT, ?_, by simp, Pg.none, by simp, rfl, fun p hp => ⟨ok_new ok hl hp, padP_push p hl⟩⟩
    intro j hj
    rcases hj with hj | hj | hj
    · exact .inl (.inl hj)
    · simp [Value.ownBlock] at hj
      subst hj
      rcases hg with hg | hg
      · exact .inl (.inr (.inl hg))
      · exact .inr hg
    · exact .inl (.inr (.inr hj))
  · have hpos : 0 < fr.length := by
      cases fr with
      | nil => exact absurd rfl hf
      | cons x l => simp
    obtain ⟨h1, h2⟩ := low_freed ok hpos
    have hpf := List.getElem?_eq_getElem h2
    have hpf0 : (ps[fr.getD 0 0]).bytes = blank := by
      have hm : fr.getD 0 0 ∈ fr := by
        cases fr with
        | nil => simp at hpos
        | cons x l => simp [List.getD]
      obtain ⟨q, hq, h0⟩ := (ok.free _).1 hm
      have he := ok.empty _ q hq h0
      rw [hpf] at hq
      simp only [Option.some.injEq] at hq
      rw [hq, he]; rfl
    obtain ⟨g, c, rfl, hc, hc'⟩ := own_shape h.freed hpos
    obtain ⟨n, hn⟩ : ∃ n, fr.length = n + 1 := ⟨fr.length - 1, by omega⟩
    rw [hn] at h
    have hsz : n ≤ 65537 := by
      have h3 : fr.length ≤ 65537 := by
        have hs : ∀ k ∈ fr, k < ps.length := fun k hk => by
          obtain ⟨p, hp, _⟩ := (ok.free k).1 hk
          exact (List.getElem?_eq_some_iff.1 hp).1
        have h4 := nodup_len ps.length fr ok.once hs
        have := ok.top
        omega
      omega
    refine ⟨fr.getD 0 0, by omega, h1, (take_freed h hsz ok.heap).mono ?_⟩
    rintro e w' ⟨rfl, fr', hM, hP, hI, hT⟩
    rw [hn]
    refine ⟨rfl, _, _, _, _, hM, hT, ?_, h2, _, hpf, hpf0, fun p hp => ⟨ok_freed ok hP hI hp, padP_set p h2⟩⟩
    intro j hj
    rcases hj with hj | hj | hj
    · exact .inl (.inl hj)
    · exact .inl (.inr (.inl hj))
    · exact .inl (.inr (.inr (by simpa [Value.ownBlock] using hj)))

theorem one_cell (w : World) (g o : Nat) (v : Value) : w.setCells g o [v] = w.setCell ⟨g, o, none⟩ v := rfl
theorem put_users (p : Pg) (n : Nat) : putAt p.cells 0 [.int .i64 (n : Int)] = Pg.cells ⟨n, p.bytes⟩ := by simp [putAt, Pg.cells]

def allocV (L : List Pg) : Int := if lowOf L < L.length then lowOf L else 0
def allocS (L : List Pg) : Int := if lowOf L < L.length then 0 else -4
def allocL (L : List Pg) : List Pg := if lowOf L < L.length then L.set (lowOf L) ⟨1, blank⟩ else L

theorem alloc_full (h : PMem w a vs vf cap ps []) (hl : ps.length = cap) :
    Calls Try.prog 14 #[.pointer (some ⟨a, 0, none⟩)] w fun e w' => e = .returned (.tuple #[.int .i64 0, .int .i64 (-4)]) ∧ w = w' := by
  have c1 := take_full h hl
  clear h
  go_enter Try.func14, Try.ntmps14
  go_wp2_with (go_at_call 40; (with_reducible refine c1.mono ?_); rintro e w' ⟨rfl, rfl⟩)
  go_ret2
  exact ⟨rfl, rfl⟩

set_option maxRecDepth 20000 in
set_option maxHeartbeats 1000000 in
theorem alloc_some (h : PMem w a vs vf cap ps fr) (ok : POK cap ps fr) (hne : ¬ (fr = [] ∧ ps.length = cap)) :
    ∃ k : Nat, k < cap ∧ lowOf (padP cap ps) = k ∧
      Calls Try.prog 14 #[.pointer (some ⟨a, 0, none⟩)] w fun x w' => x = .returned (.tuple #[.int .i64 k, .int .i64 0]) ∧
        ∃ F', PoolAt w' a F' ((padP cap ps).set k ⟨1, blank⟩) ∧ Turn (Foot a vs vf) w w' ∧ (∀ j, F' j → Foot a vs vf j ∨ w.heap.size ≤ j) := by
  obtain ⟨k, hk, hlow, c1⟩ := take_some h ok hne
  refine ⟨k, hk, hlow, ?_⟩
  have hk' : k < 65536 := by have := ok.top; omega
  clear h ok hne hlow
  go_enter Try.func14, Try.ntmps14
  go_wp2_with (go_at_call 40; (with_reducible refine c1.mono ?_); rintro x w1 ⟨rfl, vs1, vf1, ps1, fr1, hM, hT, hsub, hlt, p0, hp0, hb0, hput⟩; obtain ⟨g, c, rfl, g1, g2, g3, g4, g5, g6, -, -, -, g10⟩ := hM.page hp0; have d1 := hM.c1; have HM := Lib.hid (And.intro (hM.put (o := 0) (cs := [.int .i64 ((1 : Nat) : Int)]) ⟨1, p0.bytes⟩ hp0 (hM.sized k p0 hp0) (by simp) (put_users p0 1)) (And.intro hT (And.intro hsub (And.intro hb0 (hput ⟨1, blank⟩ (by decide)))))); generalize ps1.length = N at *; clear hM hT hsub hput hp0 hb0)
  go_ret2
  obtain ⟨⟨hM, hT2⟩, hT, hsub, hb0, hP1, hP2⟩ := HM.out
  rw [hb0] at hM
  refine ⟨rfl, Foot a (.slice (some ⟨g, 0, none⟩) N c) vf1, ⟨_, _, cap, _, fr1, hM, hP1, rfl, hP2.symm⟩, ?_, hsub⟩
  exact hT.trans hT2 (fun b hb => by subst hb; exact hsub b (.inr (.inl rfl)))

theorem alloc_any {F : Nat → Prop} {L : List Pg} (h : PoolAt w a F L) :
    Calls Try.prog 14 #[.pointer (some ⟨a, 0, none⟩)] w fun x w' => x = .returned (.tuple #[.int .i64 (allocV L), .int .i64 (allocS L)]) ∧
      ∃ F', PoolAt w' a F' (allocL L) ∧ Turn F w w' ∧ ∀ j, F' j → F j ∨ w.heap.size ≤ j := by
  obtain ⟨vs, vf, cap, ps, fr, hM, ok, rfl, rfl⟩ := h
  have hlen := padP_len (cap := cap) ok.len
  unfold allocV allocS allocL
  rw [hlen]
  by_cases hne : fr = [] ∧ ps.length = cap
  · obtain ⟨rfl, hl⟩ := hne
    have hlow := low_full ok hl
    rw [hlow, if_neg (by omega), if_neg (by omega), if_neg (by omega)]
    refine (alloc_full hM hl).mono ?_
    rintro x w' ⟨rfl, rfl⟩
    exact ⟨rfl, _, ⟨_, _, cap, _, _, hM, ok, rfl, rfl⟩, Turn.refl _ _, fun j hj => .inl hj⟩
  · obtain ⟨k, hk, hlow, c⟩ := alloc_some hM ok hne
    rw [hlow, if_pos hk, if_pos hk, if_pos hk]
    exact c
end
end Go.Proofs.Ytgcjjgljllephaa
