/-
  The reference's pool: how it grows; what Has, Used, Copy answer. No conditions but that the pool is one that calls can make.
-/
import Derived.Test.YtgcjjgljllephaaPRef
import Derived.Deep.LoopGhost
import Derived.Deep.AppendLies
namespace Go.Proofs.Ytgcjjgljllephaa
open Go.ChangeShapes Go.WideShapes Go.ChangeAt Go.RowKit

section
variable {w w1 : World} {x cap : Nat} {vd vu : Value} {ds : List Value} {bs : List (List UInt8)} {us : List Nat} {o : Obj} {g c : Nat}
theorem RMem.growU (h : RMem w x vd vu cap ds bs us)
    (hown : w1.ownsRow 0 3 1 (.slice (some ⟨g, 0, none⟩) (us.length + 1) c) (us.length + 1) (natsOf us ++ [.int .i64 0])) (hgrow : (w.alloc o).grownBy w1 vu.ownBlock) (hat : vu.ownBlock = some g ∨ g = w.heap.size + 1) :
    w1.heap[x]? = some (.cells #[vd, vu, .int .i64 cap] 30 (0, 0)) ∧
    RMem (w1.setCell ⟨x, 1, none⟩ (.slice (some ⟨g, 0, none⟩) (us.length + 1) c)) x vd (.slice (some ⟨g, 0, none⟩) (us.length + 1) c) cap ds bs (us ++ [0]) ∧
    Turn (RFoot x vd vu ds) w (w1.setCell ⟨x, 1, none⟩ (.slice (some ⟨g, 0, none⟩) (us.length + 1) c)) ∧ ∀ j, RFoot x vd (.slice (some ⟨g, 0, none⟩) (us.length + 1) c) ds j → RFoot x vd vu ds j ∨ w.heap.size ≤ j := by
  have hT : Turn (fun k => vu.ownBlock = some k) w w1 := ((Turn.refl _ w).alloc o).grown hgrow (fun k hk => .inl hk)
  have hA := hT.heap h.head (ne_own h.users h.head (by decide))
  have hne := ne_own hown hA (by decide)
  have tS : Turn (fun k => k = x) w1 (w1.setCell ⟨x, 1, none⟩ (.slice (some ⟨g, 0, none⟩) (us.length + 1) c)) := (Turn.refl (fun k => k = x) w1).setCell (p := ⟨x, 1, none⟩) (.inl rfl) _
  refine ⟨hA, ⟨?_, ?_, ?_, h.len, fun k v b hv hb => ?_, h.apart⟩, ?_, fun j hj => ?_⟩
  · have := set_at hA 1 (.slice (some ⟨g, 0, none⟩) (us.length + 1) c)
    simpa using this
  · have h4 := hT.own h.data (fun k hk hk' => ne_own2 h.data h.users (by decide) hk hk')
    exact own_past h4 (ne_own h4 hA (by decide)) _
  · have := own_past (a := ⟨x, 1, none⟩) hown hne (.slice (some ⟨g, 0, none⟩) (us.length + 1) c)
    simpa [natsOf] using this
  · have h1 := h.each k v b hv hb
    have h4 := hT.own h1 (fun k hk hk' => ne_own2 h1 h.users (by decide) hk hk')
    exact own_past h4 (ne_own h4 hA (by decide)) _
  · exact (hT.mono (fun k hk => .inl (.inr (.inr (.inl hk))))).setCell (.inl (.inl rfl)) _
  · rcases hj with hj | hj | hj | hj
    · exact .inl (.inl hj)
    · exact .inl (.inr (.inl hj))
    · simp [Blk, Value.ownBlock] at hj
      subst hj
      rcases hat with h1 | h1
      · exact .inl (.inr (.inr (.inl h1)))
      · right; omega
    · exact .inl (.inr (.inr (.inr hj)))
theorem RMem.growD (h : RMem w x vd vu cap ds bs us)
    (hown : w1.ownsRow 0 31 1 (.slice (some ⟨g, 0, none⟩) (ds.length + 1) c) (ds.length + 1) (ds ++ [.slice none 0 0])) (hgrow : (w.alloc o).grownBy w1 vd.ownBlock) (hat : vd.ownBlock = some g ∨ g = w.heap.size + 1) :
    w1.heap[x]? = some (.cells #[vd, vu, .int .i64 cap] 30 (0, 0)) ∧
    RMem (w1.setCell ⟨x, 0, none⟩ (.slice (some ⟨g, 0, none⟩) (ds.length + 1) c)) x (.slice (some ⟨g, 0, none⟩) (ds.length + 1) c) vu cap (ds ++ [.slice none 0 0]) (bs ++ [[]]) us ∧
    Turn (RFoot x vd vu ds) w (w1.setCell ⟨x, 0, none⟩ (.slice (some ⟨g, 0, none⟩) (ds.length + 1) c)) ∧ ∀ j, RFoot x (.slice (some ⟨g, 0, none⟩) (ds.length + 1) c) vu (ds ++ [.slice none 0 0]) j → RFoot x vd vu ds j ∨ w.heap.size ≤ j := by
  have hT : Turn (fun k => vd.ownBlock = some k) w w1 := ((Turn.refl _ w).alloc o).grown hgrow (fun k hk => .inl hk)
  have hA := hT.heap h.head (ne_own h.data h.head (by decide))
  have hne := ne_own hown hA (by decide)
  have hat2 : ∀ (k : Nat) (v : Value), (ds ++ [Value.slice none 0 0])[k]? = some v → ds[k]? = some v ∨ (k = ds.length ∧ v = .slice none 0 0) := by
    intro k v hv
    rcases Nat.lt_or_ge k ds.length with hk | hk
    · rw [List.getElem?_append_left hk] at hv; exact .inl hv
    · rw [List.getElem?_append_right hk] at hv
      have hlt := (List.getElem?_eq_some_iff.1 hv).1
      simp at hlt
      have e : k = ds.length := by omega
      subst e
      simp at hv
      exact .inr ⟨rfl, hv.symm⟩
  refine ⟨hA, ⟨?_, ?_, ?_, by simp [h.len], fun k v b hv hb => ?_, fun j k v u hv hu hjk b hb => ?_⟩, ?_, fun j hj => ?_⟩
  · have := set_at hA 0 (.slice (some ⟨g, 0, none⟩) (ds.length + 1) c)
    simpa using this
  · have := own_past (a := ⟨x, 0, none⟩) hown hne (.slice (some ⟨g, 0, none⟩) (ds.length + 1) c)
    simpa using this
  · have h4 := hT.own h.users (fun k hk hk' => ne_own2 h.users h.data (by decide) hk hk')
    exact own_past h4 (ne_own h4 hA (by decide)) _
  · rcases hat2 k v hv with h0 | ⟨rfl, rfl⟩
    · have hlt := (List.getElem?_eq_some_iff.1 h0).1
      rw [List.getElem?_append_left (by rw [← h.len]; exact hlt)] at hb
      have h1 := h.each k v b h0 hb
      have h4 := hT.own h1 (fun k hk hk' => ne_own2 h1 h.data (by decide) hk hk')
      exact own_past h4 (ne_own h4 hA (by decide)) _
    · rw [h.len, List.getElem?_append_right (Nat.le_refl _)] at hb
      simp at hb
      subst hb
      exact World.ownsRow_nil _ _ _ _
  · rcases hat2 j v hv with h0 | ⟨rfl, rfl⟩
    · rcases hat2 k u hu with h1 | ⟨rfl, rfl⟩
      · exact h.apart j k v u h0 h1 hjk b hb
      · simp [Value.ownBlock]
    · simp [Value.ownBlock] at hb
  · exact (hT.mono (fun k hk => .inl (.inr (.inl hk)))).setCell (.inl (.inl rfl)) _
  · rcases hj with hj | hj | hj | ⟨k, v, hv, hj⟩
    · exact .inl (.inl hj)
    · simp [Blk, Value.ownBlock] at hj
      subst hj
      rcases hat with h1 | h1
      · exact .inl (.inr (.inl h1))
      · right; omega
    · exact .inl (.inr (.inr (.inl hj)))
    · rcases hat2 k v hv with h0 | ⟨rfl, rfl⟩
      · exact .inl (.inr (.inr (.inr ⟨k, v, h0, hj⟩)))
      · simp [Blk, Value.ownBlock] at hj
end

/-- A frame as the pool has it: what has no user is nothing. -/
def rPg (u : Nat) (b : List UInt8) : Pg := if u = 0 then Pg.none else ⟨u, b⟩
def rP (us : List Nat) (bs : List (List UInt8)) : List Pg := List.zipWith rPg us bs
theorem rP_len {us : List Nat} {bs : List (List UInt8)} (h : us.length = bs.length) : (rP us bs).length = us.length := by simp [rP, h]
theorem rP_at {us : List Nat} {bs : List (List UInt8)} {k u : Nat} {b : List UInt8} (hu : us[k]? = some u) (hb : bs[k]? = some b) : (rP us bs)[k]? = some (rPg u b) := by simp [rP, List.getElem?_zipWith, hu, hb]
theorem rPg_users (u : Nat) (b : List UInt8) : (rPg u b).users = u := by
  unfold rPg
  split
  · rename_i h; rw [h]; rfl
  · rfl
theorem rPg_set {us : List Nat} {bs : List (List UInt8)} {k u : Nat} {b : List UInt8} (hl : us.length = bs.length) (hk : k < us.length) : rP (us.set k u) (bs.set k b) = (rP us bs).set k (rPg u b) := by
  apply List.ext_getElem?
  intro i
  by_cases e : k = i
  · subst e
    rw [rP_at (u := u) (b := b) (List.getElem?_set_self hk) (List.getElem?_set_self (by omega)), List.getElem?_set_self (by rw [rP_len hl]; exact hk)]
  · rw [List.getElem?_set_ne e]
    simp [rP, List.getElem?_zipWith, List.getElem?_set_ne e]
def RefAt (w : World) (x : Nat) (F : Nat → Prop) (L : List Pg) : Prop := ∃ vd vu cap ds bs us, RMem w x vd vu cap ds bs us ∧ (us.length = bs.length ∧ us.length ≤ cap ∧ cap ≤ 65536 ∧ ∀ b ∈ bs, b.length = 64) ∧ F = RFoot x vd vu ds ∧ L = padP cap (rP us bs)
theorem ref_own (x : Nat) (F : Nat → Prop) (L : List Pg) : Own F (fun w => RefAt w x F L) := by
  refine ⟨fun w w' G h ht hf => ?_, fun w h j hj => ?_⟩
  · obtain ⟨vd, vu, cap, ds, bs, us, h1, h2, rfl, rfl⟩ := h
    exact ⟨vd, vu, cap, ds, bs, us, h1.kept ht hf, h2, rfl, rfl⟩
  · obtain ⟨vd, vu, cap, ds, bs, us, h1, h2, rfl, rfl⟩ := h
    exact h1.lt hj
theorem RefAt.past {w w' : World} {x : Nat} {F : Nat → Prop} {L : List Pg} (h : RefAt w x F L) (ht : Turn NoBlock w w') : RefAt w' x F L := (ref_own x F L).kept _ _ _ h ht (fun _ _ h => h)
theorem RefAt.lt {w : World} {x : Nat} {F : Nat → Prop} {L : List Pg} (h : RefAt w x F L) {j : Nat} (hj : F j) : j < w.heap.size := (ref_own x F L).lt _ h j hj

theorem pgAt_low {cap : Nat} {us : List Nat} {bs : List (List UInt8)} {k u : Nat} {b : List UInt8} (hu : us[k]? = some u) (hb : bs[k]? = some b) : pgAt (padP cap (rP us bs)) k = rPg u b := by
  rw [pgAt_pad, pgAt_nat, List.getD_eq_getElem?_getD, rP_at hu hb]; rfl
theorem pgAt_high {cap k : Nat} {us : List Nat} {bs : List (List UInt8)} (hl : us.length = bs.length) (hk : us.length ≤ k) : pgAt (padP cap (rP us bs)) k = Pg.none := by
  rw [pgAt_pad, pgAt_nat, List.getD_eq_getElem?_getD, List.getElem?_eq_none (by rw [rP_len hl]; exact hk)]; rfl
theorem get_some {α : Type} {l : List α} {k : Nat} (h : k < l.length) : ∃ y, l[k]? = some y := ⟨_, List.getElem?_eq_getElem h⟩

theorem rhas_any {w : World} {x : Nat} {F : Nat → Prop} {L : List Pg} (h : RefAt w x F L) (f : Int) :
    Calls Try.prog 16 #[.pointer (some ⟨x, 0, none⟩), .int .i64 f] w fun e w' => e = .returned (.bool (decide (usersL L f ≠ 0))) ∧ w = w' := by
  obtain ⟨vd, vu, cap, ds, bs, us, hM, ⟨hl, hlc, hc, hb⟩, rfl, rfl⟩ := h
  unfold usersL
  by_cases h0 : f < 0
  · rw [pgAt_neg _ h0]
    clear hM hb
    go_enter Try.func16, Try.ntmps16
    go_wp2
    go_ret
    exact ⟨ret_bool rfl, rfl⟩
  · obtain ⟨k, rfl⟩ : ∃ k : Nat, f = k := ⟨f.toNat, by omega⟩
    have d1 := hM.c1
    by_cases hlt : k < us.length
    · obtain ⟨u, hu⟩ := get_some hlt
      obtain ⟨b, hbk⟩ := get_some (show k < bs.length by omega)
      rw [pgAt_low hu hbk, rPg_users]
      obtain ⟨g, c, rfl, g1, g2, g3, -⟩ := hM.user hlt
      have e : us.getD k 0 = u := by simp [List.getD, hu]
      rw [e] at g2
      generalize us.length = n at *
      clear hM hb hu hbk e h0
      by_cases hu0 : u = 0
      · subst hu0
        go_enter Try.func16, Try.ntmps16
        go_wp2
        go_ret
        exact ⟨ret_bool rfl, rfl⟩
      · have hup : (0 : Int) < u := by omega
        have hd : decide (u ≠ 0) = true := by simpa using hu0
        rw [hd]
        clear hd hu0
        go_enter Try.func16, Try.ntmps16
        go_wp2
        go_ret
        exact ⟨ret_bool (decide_eq_true (by omega)), rfl⟩
    · rw [pgAt_high hl (by omega)]
      obtain ⟨p, c, rfl⟩ := hM.sliceU
      generalize us.length = n at *
      clear hM hb
      go_enter Try.func16, Try.ntmps16
      go_wp2
      go_ret
      exact ⟨ret_bool rfl, rfl⟩

def cntU (us : List Nat) (k : Nat) : Nat := ((us.take k).filter (· != 0)).length
theorem cntU_succ {us : List Nat} {k u : Nat} (h : us[k]? = some u) : cntU us (k + 1) = if 0 < u then cntU us k + 1 else cntU us k := by
  unfold cntU
  rw [List.take_add_one, h, List.filter_append, List.length_append]
  by_cases hu : u = 0
  · subst hu; rfl
  · rw [if_pos (by omega)]
    have : (List.filter (fun y => y != 0) (some u).toList).length = 1 := by simp [hu]
    rw [this]
theorem cntU_le (us : List Nat) (k : Nat) : cntU us k ≤ k := by
  unfold cntU
  have := List.length_filter_le (· != 0) (us.take k)
  rw [List.length_take] at this
  omega
theorem cntU_all {us : List Nat} {bs : List (List UInt8)} (h : us.length = bs.length) (cap : Nat) : usedN (padP cap (rP us bs)) = cntU us us.length := by
  rw [used_pad]
  unfold cntU
  rw [List.take_length]
  unfold usedN rP
  induction us generalizing bs with
  | nil => rfl
  | cons u us ih =>
    cases bs with
    | nil => simp at h
    | cons b bs =>
      have h2 := ih (bs := bs) (by simpa using h)
      simp only [List.zipWith_cons_cons, List.filter_cons, rPg_users]
      by_cases hu : u = 0
      · subst hu; simpa using h2
      · simp only [bne_iff_ne, ne_eq, hu, not_false_eq_true, ↓reduceIte, List.length_cons]
        rw [h2]

theorem rused_any {w : World} {x : Nat} {F : Nat → Prop} {L : List Pg} (h : RefAt w x F L) :
    Calls Try.prog 29 #[.pointer (some ⟨x, 0, none⟩)] w fun e w' => e = .returned (.int .i64 (usedN L)) ∧ w = w' := by
  obtain ⟨vd, vu, cap, ds, bs, us, hM, ⟨hl, hlc, hc, hb⟩, rfl, rfl⟩ := h
  rw [cntU_all hl]
  have d1 := hM.c1
  obtain ⟨p, c, hv⟩ := hM.sliceU
  have HM := Lib.hid (fun k (hk : k < us.length) => hM.user hk)
  obtain ⟨n, hn⟩ : ∃ n, us.length = n := ⟨_, rfl⟩
  rw [hn] at hv HM hlc ⊢
  rw [hv] at d1
  have HV := Lib.hid hv
  have HU := Lib.hid hn
  clear hM hb hv hn hl
  go_enter Try.func29, Try.ntmps29
  go_wp2
  go_loopg [3, 4] n (fun g s3 s4 wr => ∃ k : Nat, k ≤ n ∧ g = n - k ∧ s3 = .int .i64 (cntU us k) ∧ s4 = .int .i64 k ∧ w = wr)
  case atStart => exact ⟨0, by omega, by omega, rfl, rfl, rfl⟩
  case round =>
    obtain ⟨k, hk, hg, rfl, rfl, rfl⟩ := hrel
    by_cases hlt : k < n
    · obtain ⟨u, hu⟩ := get_some (show k < us.length by rw [HU.out]; exact hlt)
      obtain ⟨gu, cu, he, g1, g2, g3, -⟩ := HM.out k hlt
      rw [HV.out] at he
      simp only [Value.slice.injEq] at he
      obtain ⟨rfl, -, rfl⟩ := he
      have e : us.getD k 0 = u := by simp [List.getD, hu]
      rw [e] at g2
      have HC := Lib.hid (cntU_succ hu)
      have hle := cntU_le us k
      clear hu e
      generalize cntU us k = q at *
      have hq : (q : Int) ≤ 65536 := by omega
      by_cases hu0 : u = 0
      · subst hu0
        go_wp2
        go_roundg (n - (k + 1))
        case measure => omega
        case rel => exact ⟨k + 1, by omega, by omega, by rw [HC.out]; rfl, by go_num, rfl⟩
      · have hup : (0 : Int) < u := by omega
        go_wp2
        go_roundg (n - (k + 1))
        case measure => omega
        case rel => exact ⟨k + 1, by omega, by omega, by rw [HC.out, if_pos (by omega)]; go_num, by go_num, rfl⟩
    · obtain rfl : k = n := by omega
      go_wp2
      go_ret
      exact ⟨rfl, rfl⟩

set_option maxRecDepth 20000 in
theorem rcopy_any {w : World} (v : Value) (bs : List UInt8) (hv : Src w v bs) (hl : bs.length ≤ 4096) :
    Calls Try.prog 24 #[v] w fun e w' => ∃ v', e = .returned v' ∧ Byts v' bs w' ∧ (∀ j, Blk v' j → w.heap.size ≤ j) ∧ Turn NoBlock w w' := by
  obtain ⟨iv, hi5, hz0, hz1, hz2⟩ := info_parts info5
  rcases hv with ⟨⟨p, c, rfl⟩, rfl⟩ | ⟨g, off, c, rfl, hc⟩
  · have hap : ∀ (t : TypeId), (Builtin.append_ #[31, 31] t #[.slice none 0 0, .slice p 0 c]).run Try.prog w = .ok (.slice none 0 0) w := by
      intro t
      cases p <;> simp [Builtin.append_, run_underlying bytes31, sizeOf, typeInfo, hi5, Builtin.lenOf, Builtin.firstCells, loadCells, loadCellsFrom]
    clear hl
    cases p
    all_goals
      go_enter Try.func24, Try.ntmps24
      go_wp2
      go_ret
      exact ⟨_, rfl, World.ownsRow_nil _ _ _ _, fun j hj => (blk_nil j hj).elim, Turn.refl _ _⟩
  · obtain ⟨n, hn⟩ : ∃ n, bs.length = n := ⟨_, rfl⟩
    by_cases h0 : n = 0
    · subst h0
      obtain rfl : bs = [] := List.eq_nil_of_length_eq_zero hn
      have hap : ∀ (t : TypeId), (Builtin.append_ #[31, 31] t #[.slice none 0 0, .slice (some ⟨g, off, none⟩) 0 c]).run Try.prog w = .ok (.slice none 0 0) w := by
        intro t
        simp [Builtin.append_, run_underlying bytes31, sizeOf, typeInfo, hi5, Builtin.lenOf, Builtin.firstCells, loadCells, loadCellsFrom]
      simp only [List.length_nil]
      go_enter Try.func24, Try.ntmps24
      go_wp2
      go_ret
      exact ⟨_, rfl, World.ownsRow_nil _ _ _ _, fun j hj => (blk_nil j hj).elim, Turn.refl _ _⟩
    · have HN := Lib.hid (show ∀ (j : Nat) (u : Value), (bcells bs)[j]? = some u → w.cell? ((⟨g, off, none⟩ : Addr).add j) = some u from fun j u hu => by
        have hlt := (List.getElem?_eq_some_iff.1 hu).1
        rw [bcells_len] at hlt
        rw [Addr.add_mid, hc j hlt, ← hu]
        simp [bcells, List.getD, List.getElem?_eq_getElem hlt])
      have q1 : 0 + n ≤ maxLen := by unfold maxLen; omega
      have q2 : (0 + n) * 1 ≤ 140737488355328 := by omega
      have HQ := Lib.hid (And.intro q1 q2)
      have HL := Lib.hid hn
      have H0 := Lib.hid (show 0 < n by omega)
      rw [hn] at hl ⊢
      clear hc hn hl q1 q2 h0
      go_enter Try.func24, Try.ntmps24
      go_wp2_with (at_builtin; refine wpList_append_lies _ rfl (.tmp 4) (.tmp 5) 31 rfl 0 5 iv _ 1 1 bytes31 hi5 hz0 hz1 hz2 rfl (by decide) (.slice none 0 0) 0 [] rfl (World.ownsRow_nil _ _ _ _) ⟨g, off, none⟩ n c (bcells bs) rfl (by rw [bcells_len, HL.out, Nat.mul_one]) HN.out (bcells_one _) H0.out HQ.out.1 HQ.out.2 (Nat.zero_le _) _ rfl ?_; intro g6 c6 w6 hown hgrow hat hlt6; rw [Nat.zero_add] at hown ⊢; have K6 := Lib.hid (And.intro hown (And.intro hgrow hat)); clear hown hgrow hat hlt6)
      go_ret
      obtain ⟨k1, k2, k3⟩ := K6.out
      refine ⟨_, rfl, ?_, fun j hj => ?_, (Turn.refl NoBlock w).grown k2 (fun k e => by cases e)⟩
      · unfold Byts
        rw [HL.out]
        simpa using k1
      · simp [Blk, Value.ownBlock] at hj
        subst hj
        rcases k3 with k3 | k3
        · cases k3
        · omega
end Go.Proofs.Ytgcjjgljllephaa
