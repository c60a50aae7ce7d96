/-
  What the reference's Add answers, and what it makes of its places. No conditions but that the table is one that calls can make.
-/
import Derived.Test.YtacdhlhkpdlekaaHRef2
import Derived.Deep.AppendLies
import Derived.Deep.RegionHeld3
import Derived.Deep.DeepCutAuto
namespace Go.Proofs.Ytacdhlhkpdlekaa
open Go.ChangeShapes Go.WideShapes Go.ChangeAt Go.RowKit

theorem quiet_flip {P : Program} {f : FuncId} {args : Array Value} {w : World} {n : Nat} {v : Value}
    (h : Calls P f args (w.drewN n) fun e w' => e = .returned v ∧ w.drewN n = w') : Calls P f args (w.drewN n) fun e w'' => e = .returned v ∧ ∃ m, w'' = w.drewN m :=
  h.mono fun _ _ ⟨he, hm⟩ => ⟨he, n, hm.symm⟩

section
variable {w : World} {x cap : Nat} {va ea : Value} {R : List Pl}

set_option maxRecDepth 20000 in
theorem radd_full (h : RMem w x va ea cap (valsR R) (entsR R)) (ok : ROK cap R) (hf : cap ≤ (takenL R).length) (e : Ent) (d : Int) :
    Calls Try.prog 31 #[.pointer (some ⟨x, 0, none⟩), e.agg, .int .i64 d] w fun y w' => y = .returned (.tuple #[.int .i64 0, .int .i64 (-4)]) ∧ Turn NoBlock w w' := by
  have hM := h.past ((Turn.refl NoBlock w).alloc (.cells #[.int .i64 e.o, .int .i64 e.k, .int .i64 e.r] 76))
  have c2 := hM.c2
  have hc : ∀ n, Calls Try.prog 47 #[.pointer (some ⟨x, 0, none⟩)] ((w.alloc (.cells #[.int .i64 e.o, .int .i64 e.k, .int .i64 e.r] 76)).drewN n) fun y w' => y = .returned (.int .i64 (takenL R).length) ∧ ((w.alloc (.cells #[.int .i64 e.o, .int .i64 e.k, .int .i64 e.r] 76)).drewN n) = w' :=
    fun n => rcount_mem (hM.past ((Turn.refl NoBlock _).drewN n)) ok
  have hle : (takenL R).length ≤ R.length := List.length_filter_le _ _
  have htop : (takenL R).length ≤ 65536 := by have := ok.len; have := ok.top; omega
  generalize (takenL R).length = t at *
  have HC := Lib.hid hc
  unfold Ent.agg
  clear h ok hM hc hle
  go_enter Try.func31, Try.ntmps31
  go_wp2
  go_quiet (first | (go_at_call 47; with_reducible exact quiet_flip (HC.out _)))
  go_wp2
  go_ret2
  exact ⟨rfl, ((Turn.refl NoBlock w).alloc _).drewN _⟩

theorem cell_past {w : World} {a p : Addr} {v u : Value} (h : w.cell? a = some v) (hne : a.block ≠ p.block) : (w.setCell p u).cell? a = some v := (World.cell?_of_block (Below.heap_setCell _ _ _ _ hne)).trans h
theorem wrapV (m : Nat) (d : Int) (hm : m < 65536) : IntKind.i64.wrap (IntKind.i64.wrap (IntKind.i64.wrap (d % 65536 * 1048576) + IntKind.i64.wrap ((m : Int) * 4)) + 3) = valS m d := by
  obtain ⟨k, hk, hk'⟩ : ∃ k : Nat, d % 65536 = k ∧ k < 65536 := ⟨(d % 65536).toNat, by omega, by omega⟩
  unfold valS
  rw [hk]
  rw [show (k : Int) * 1048576 = ((k * 1048576 : Nat) : Int) by omega, show (m : Int) * 4 = ((m * 4 : Nat) : Int) by omega, wrap_nat _ (by omega), wrap_nat _ (by omega), show ((k * 1048576 : Nat) : Int) + ((m * 4 : Nat) : Int) = ((k * 1048576 + m * 4 : Nat) : Int) by omega, wrap_nat _ (by omega), show ((k * 1048576 + m * 4 : Nat) : Int) + 3 = ((k * 1048576 + m * 4 + 3 : Nat) : Int) by omega, wrap_nat _ (by omega)]

theorem setR {R : List Pl} {m : Nat} {z : Int} {e : Ent} : (valsR R).set m z = valsR (R.set m ⟨z, e⟩) ∧ (entsR R).set m e = entsR (R.set m ⟨z, e⟩) := by
  unfold valsR entsR
  rw [List.map_set, List.map_set]
  exact ⟨rfl, rfl⟩

set_option maxRecDepth 20000 in
set_option maxHeartbeats 2000000 in
theorem radd_old (h : RMem w x va ea cap (valsR R) (entsR R)) (ok : ROK cap R) (hf : (takenL R).length < cap) (m : Nat) (hm : m < R.length) (hne : ∀ (k : Nat) (p : Pl), k < m → R[k]? = some p → p.value ≠ 0) (h0 : ∀ p, R[m]? = some p → p.value = 0) (e : Ent) (d : Int) :
    Calls Try.prog 31 #[.pointer (some ⟨x, 0, none⟩), e.agg, .int .i64 d] w fun y w' => y = .returned (.tuple #[.int .i64 (valS m d), .int .i64 0]) ∧
      RMem w' x va ea cap (valsR (R.set m ⟨valS m d, e⟩)) (entsR (R.set m ⟨valS m d, e⟩)) ∧ Turn (RFoot x va ea) w w' := by
  obtain ⟨n, hn⟩ : ∃ n, R.length = n := ⟨_, rfl⟩
  have hvl : (valsR R).length = n := by rw [← hn]; simp [valsR]
  have hel : (entsR R).length = n := by rw [← hn]; simp [entsR]
  have hbox := heap_alloc_new w (.cells #[.int .i64 e.o, .int .i64 e.k, .int .i64 e.r] 76)
  have HLt := Lib.hid (fun j (hj : RFoot x va ea j) => h.lt hj)
  have hM := h.past ((Turn.refl NoBlock w).alloc (.cells #[.int .i64 e.o, .int .i64 e.k, .int .i64 e.r] 76))
  have htA : Turn NoBlock w (w.alloc (.cells #[.int .i64 e.o, .int .i64 e.k, .int .i64 e.r] 76)) := (Turn.refl NoBlock w).alloc _
  have hc : ∀ n, Calls Try.prog 47 #[.pointer (some ⟨x, 0, none⟩)] ((w.alloc (.cells #[.int .i64 e.o, .int .i64 e.k, .int .i64 e.r] 76)).drewN n) fun y w' => y = .returned (.int .i64 (takenL R).length) ∧ ((w.alloc (.cells #[.int .i64 e.o, .int .i64 e.k, .int .i64 e.r] 76)).drewN n) = w' :=
    fun n => rcount_mem (hM.past ((Turn.refl NoBlock _).drewN n)) ok
  have c2 := hM.c2
  have htop : (takenL R).length < cap ∧ cap ≤ 65536 ∧ n ≤ 65536 := by have := ok.len; have := ok.top; omega
  obtain ⟨ht1, ht2, ht3⟩ := htop
  generalize (takenL R).length = t at *
  obtain ⟨W, hW⟩ : ∃ W, w.alloc (.cells #[.int .i64 e.o, .int .i64 e.k, .int .i64 e.r] 76) = W := ⟨_, rfl⟩
  have HW := Lib.hid hW
  rw [hW] at hM hc hbox c2 htA
  have HC := Lib.hid hc
  have HM := Lib.hid (And.intro hM (And.intro hbox htA))
  have HN := Lib.hid (And.intro hn (And.intro hvl hel))
  have HV := Lib.hid (wrapV m d (by omega))
  have HR := Lib.hid (And.intro hne h0)
  rw [hn] at hm
  obtain ⟨gv, cv, rfl, hcv1, hcv2, hxv, hev, -, -⟩ := hM.valAt (k := m) (by rw [hvl]; exact hm)
  obtain ⟨eo, heo⟩ : ∃ eo, (entsR R)[m]? = some eo := ⟨_, List.getElem?_eq_getElem (by rw [hel]; exact hm)⟩
  obtain ⟨ge, ce, rfl, -, hce1, hce2, hxe, hve, -, -, -, -⟩ := hM.entAt heo
  rw [hvl] at hcv1
  rw [hel] at hce1
  have hvg : gv ≠ ge := fun h => hve (by simp [Value.ownBlock, h])
  simp only [hvl, hel] at HM HLt HC hc ⊢
  unfold Ent.agg
  clear h ok hM hc hf hne h0 hW hbox htA hvl hel hn heo hev hve
  go_enter Try.func31, Try.ntmps31
  go_wp2
  rw [HW.out]
  go_quiet (first | (go_at_call 47; with_reducible exact quiet_flip (HC.out _)))
  go_wp2
  have K1 := Lib.hid (And.intro (HM.out.1.past ((Turn.refl NoBlock W).drewN nq)) (And.intro (show (W.drewN nq).heap[w.heap.size]? = some (.cells #[.int .i64 e.o, .int .i64 e.k, .int .i64 e.r] 76 (0, 0)) from HM.out.2.1) (HM.out.2.2.drewN nq)))
  clear c2 HC HM
  generalize W.drewN nq = W1 at *
  have HWW := Lib.hid HW
  clear HW
  go_loopg [8] m (fun g c wr => ∃ k : Nat, k ≤ m ∧ g = m - k ∧ c = .int .i64 k ∧ wr = W1)
  case atStart => exact ⟨0, by omega, by omega, rfl, rfl⟩
  case round =>
    obtain ⟨k, hk, hgk, rfl, rfl⟩ := hrel
    have d0 := K1.out.1.c0
    have d1 := K1.out.1.c1
    have hkn : k < n := by omega
    obtain ⟨p, hp⟩ : ∃ p, R[k]? = some p := ⟨_, List.getElem?_eq_getElem (by rw [HN.out.1]; exact hkn)⟩
    obtain ⟨_, _, he, -, -, -, -, hcell, hfz⟩ := K1.out.1.valAt (k := k) (by rw [HN.out.2.1]; exact hkn)
    simp only [Value.slice.injEq, Option.some.injEq, Addr.mk.injEq, and_true] at he
    obtain ⟨rfl, -, -⟩ := he
    rw [valsR_getD hp] at hcell
    have HP := Lib.hid hp
    clear hp
    by_cases hlt : k < m
    · have hb : (p.value != 0) = true := by
        have := HR.out.1 k p hlt HP.out
        simp [this]
      generalize p.value = pv at *
      go_wp2
      go_roundg (m - (k + 1))
      case measure => omega
      case rel => exact ⟨k + 1, by omega, by omega, by go_num, rfl⟩
    · obtain rfl : k = m := by omega
      have h0 := HR.out.2 p HP.out
      rw [h0] at hcell
      clear h0
      obtain ⟨_, _, he, -, -, -, -, -, e0, e1, e2, efz⟩ := K1.out.1.entAt (k := k) (List.getElem?_eq_getElem (by rw [HN.out.2.2]; exact hkn))
      simp only [Value.slice.injEq, Option.some.injEq, Addr.mk.injEq, and_true] at he
      obtain ⟨rfl, -, -⟩ := he
      have b0 := cell_at K1.out.2.1 0
      have b1 := cell_at K1.out.2.1 1
      have b2 := cell_at K1.out.2.1 2
      simp at b0 b1 b2
      have hbv : w.heap.size ≠ gv := fun h => by have := HLt.out gv (.inr (.inl rfl)); omega
      have hbe : w.heap.size ≠ ge := fun h => by have := HLt.out ge (.inr (.inr rfl)); omega
      have hbx : w.heap.size ≠ x := fun h => by have := HLt.out x (.inl rfl); omega
      have HMod := Lib.hid (fun w => mod_any d w)
      generalize hB : w.heap.size = B at *
      have HB := Lib.hid hB
      clear hB
      go_wp2
      go_region_held3 (fun w' => w'.cell? ⟨x, 0, none⟩ = some (.slice (some ⟨gv, 0, none⟩) n cv)) (first | exact d0 | exact cell_past d0 hxv)
        (first | (go_at_call 20; (with_reducible refine (HMod.out _).mono ?_); rintro e w2 ⟨rfl, rfl⟩))
      all_goals
        go_wp2
        go_region
        go_wp2
        go_ret2
        have P1 := RMem.putV (valS k d) K1.out.1 (k := k) (by rw [HN.out.2.1]; exact hkn)
        have P2 := RMem.putE e P1.1 (k := k) (by rw [HN.out.2.2]; exact hkn)
        rw [(setR (e := e)).1, (setR (z := valS k d)).2] at P2
        have t1 := ((K1.out.2.2.mono (G := RFoot x (.slice (some ⟨gv, 0, none⟩) n cv) (.slice (some ⟨ge, 0, none⟩) n ce)) (fun _ h => h.elim)).trans P1.2 (fun b h => .inl (by subst h; exact .inr (.inl rfl)))).trans P2.2 (fun b h => .inl (by subst h; exact .inr (.inr rfl)))
        exact ⟨rfl, P2.1.past ((Turn.refl NoBlock _).drew.drew), t1.drew.drew⟩

theorem rgrow3 {P Q S : Nat → Prop} {B n0 n1 n2 : Nat} (hB : B < n1) (hBe : n0 = B) (hlt : ∀ j, P j → j < n0) (hs1 : ∀ j, Q j → P j ∨ n1 ≤ j) (hs2 : ∀ j, S j → Q j ∨ n2 ≤ j) (h12 : n1 ≤ n2) : ¬ S B ∧ ∀ j, S j → P j ∨ n0 ≤ j := by
  refine ⟨fun h => ?_, fun j hj => ?_⟩
  · rcases hs2 B h with h | h
    · rcases hs1 B h with h | h
      · have := hlt B h; omega
      · omega
    · omega
  · rcases hs2 j hj with h | h
    · rcases hs1 j h with h | h
      · exact .inl h
      · right; omega
    · right; omega
theorem rgrow1 {wr w1 : World} {V : List Int} {E : List Ent} {z : Int} {o bx : Obj} {B n g c : Nat} (hM : RMem wr x va ea cap V E) (t0 : Turn NoBlock w wr) (hlt : ∀ j, RFoot x va ea j → j < w.heap.size) (hb : wr.heap[B]? = some bx) (hB : w.heap.size ≤ B) (hn : V.length = n)
    (hown : w1.ownsRow 0 3 1 (.slice (some ⟨g, 0, none⟩) (n + 1) c) (n + 1) (V.map (Value.int .i64) ++ [.int .i64 z])) (hgrow : (wr.alloc o).grownBy w1 va.ownBlock) (hat : va.ownBlock = some g ∨ g = wr.heap.size + 1) :
    w1.heap[x]? = some (.cells #[va, ea, .int .i64 cap] 30 (0, 0)) ∧ RMem (w1.setCell ⟨x, 0, none⟩ (.slice (some ⟨g, 0, none⟩) (n + 1) c)) x (.slice (some ⟨g, 0, none⟩) (n + 1) c) ea cap (V ++ [z]) E ∧
      (w1.setCell ⟨x, 0, none⟩ (.slice (some ⟨g, 0, none⟩) (n + 1) c)).heap[B]? = some bx ∧ Turn (RFoot x va ea) w (w1.setCell ⟨x, 0, none⟩ (.slice (some ⟨g, 0, none⟩) (n + 1) c)) ∧ (∀ j, RFoot x (.slice (some ⟨g, 0, none⟩) (n + 1) c) ea j → RFoot x va ea j ∨ wr.heap.size ≤ j) ∧ wr.heap.size ≤ (w1.setCell ⟨x, 0, none⟩ (.slice (some ⟨g, 0, none⟩) (n + 1) c)).heap.size := by
  obtain ⟨h1, h2, h3⟩ := ints_push hn hown hgrow hat
  have h4 := h2.heap hM.head (fun e => hM.xv e)
  obtain ⟨h5, h6⟩ := hM.newV h1 h2
  refine ⟨h4, h5, ?_, (t0.mono (G := RFoot x va ea) (fun _ h => h.elim)).trans h6 (fun _ h => .inl h), fun j hj => ?_, h6.size⟩
  · exact h6.heap hb (fun hj => by have := hlt _ hj; omega)
  · rcases hj with hj | hj | hj
    · exact .inl (.inl hj)
    · rcases h3 j hj with h | h
      · exact .inl (.inr (.inl h))
      · exact .inr h
    · exact .inl (.inr (.inr hj))
theorem rgrow2 {wr w1 : World} {V : List Int} {E : List Ent} {z : Ent} {va' : Value} {o bx : Obj} {B n g c : Nat} (hM : RMem wr x va' ea cap V E) (t0 : Turn (RFoot x va ea) w wr) (hsub : ∀ j, RFoot x va' ea j → RFoot x va ea j ∨ w.heap.size ≤ j) (hb : wr.heap[B]? = some bx) (hbn : ¬ RFoot x va' ea B) (hn : E.length = n)
    (hown : w1.ownsRow 0 76 3 (.slice (some ⟨g, 0, none⟩) (n + 1) c) (n + 1) (entsOf E ++ [.int .i64 z.o, .int .i64 z.k, .int .i64 z.r])) (hgrow : (wr.alloc o).grownBy w1 ea.ownBlock) (hat : ea.ownBlock = some g ∨ g = wr.heap.size + 1) :
    w1.heap[x]? = some (.cells #[va', ea, .int .i64 cap] 30 (0, 0)) ∧ RMem (w1.setCell ⟨x, 1, none⟩ (.slice (some ⟨g, 0, none⟩) (n + 1) c)) x va' (.slice (some ⟨g, 0, none⟩) (n + 1) c) cap V (E ++ [z]) ∧
      (w1.setCell ⟨x, 1, none⟩ (.slice (some ⟨g, 0, none⟩) (n + 1) c)).heap[B]? = some bx ∧ Turn (RFoot x va ea) w (w1.setCell ⟨x, 1, none⟩ (.slice (some ⟨g, 0, none⟩) (n + 1) c)) ∧ (∀ j, RFoot x va' (.slice (some ⟨g, 0, none⟩) (n + 1) c) j → RFoot x va' ea j ∨ wr.heap.size ≤ j) := by
  obtain ⟨h1, h2, h3⟩ := rents_push hn hown hgrow hat
  have h4 := h2.heap hM.head (fun e => hM.xe e)
  obtain ⟨h5, h6⟩ := hM.newE h1 h2
  refine ⟨h4, h5, h6.heap hb hbn, t0.trans h6 hsub, fun j hj => ?_⟩
  rcases hj with hj | hj | hj
  · exact .inl (.inl hj)
  · exact .inl (.inr (.inl hj))
  · rcases h3 j hj with h | h
    · exact .inl (.inr (.inr h))
    · exact .inr h

end
end Go.Proofs.Ytacdhlhkpdlekaa
