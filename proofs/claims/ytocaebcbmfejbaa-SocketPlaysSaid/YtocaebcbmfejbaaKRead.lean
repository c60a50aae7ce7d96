/-
  What Read answers, and what it makes of the socket. No conditions but that the socket is one that calls can make.
-/
import Derived.Test.YtocaebcbmfejbaaKWrite
import Derived.OwnWalk
namespace Go.Proofs.Ytocaebcbmfejbaa
open Go.ChangeShapes Go.WideShapes Go.ChangeAt Go.RowKit

/-- A socket of ends K' behind a call that told the bytes bs in new memory. -/
def RMade (w w' : World) (c : Nat) (dg : Bool) (room : Nat) (V : Nat → EV) (K' : Nat → En) (v : Value) (bs : List UInt8) : Prop :=
  ∃ V', KMem w' c dg room K' V' ∧ Turn (KFoot c V) w w' ∧ (∀ k, KFoot c V' k → KFoot c V k ∨ w.heap.size ≤ k) ∧ Byts v bs w' ∧ ∀ k, Blk v k → w.heap.size ≤ k ∧ ¬ KFoot c V' k
/-- How many bytes one Read may tell. -/
def firstN (s : En) : Nat := match s.p with | [] => s.b.length | x :: _ => x
/-- What an end is behind a Read of m bytes. -/
def dropE (s : En) (m : Nat) : En := match s.p with | [] => { s with b := s.b.drop m } | x :: r => { s with b := s.b.drop x, p := r }
def rdS (a b : En) : Int := if wayS a b = 0 then -22 else wayS a b
theorem firstN_le {dg : Bool} {room : Nat} {s : En} (h : EOK dg room s) : firstN s ≤ s.b.length := by
  unfold firstN
  cases hp : s.p with
  | nil => exact Nat.le_refl _
  | cons x r =>
    cases dg with
    | true => have := h.sum rfl; rw [hp] at this; simp at this; show x ≤ _; omega
    | false => have := h.no rfl; rw [hp] at this; cases this
theorem dropE_ok {dg : Bool} {room m : Nat} {s : En} (h : EOK dg room s) (ho : s.op = true) (hm : m ≤ s.b.length) (h0 : 0 < s.b.length) : EOK dg room (dropE s m) := by
  unfold dropE
  cases hp : s.p with
  | nil =>
    refine ⟨by show (s.b.drop m).length ≤ room; rw [List.length_drop]; have := h.len; omega, fun hd => ?_, (fun hd y hy => by cases hy), (fun hd => rfl), (fun hc => by rw [show s.op = false from hc] at ho; cases ho)⟩
    have := h.sum hd; rw [hp] at this; simp at this; rw [this] at h0; simp at h0
  | cons x r =>
    have hx : x ≤ s.b.length := by have := firstN_le h; unfold firstN at this; rw [hp] at this; exact this
    refine ⟨by show (s.b.drop x).length ≤ room; rw [List.length_drop]; have := h.len; omega, fun hd => ?_, fun hd y hy => h.pos hd y (by rw [hp]; exact List.mem_cons_of_mem _ hy), (fun hd => by have := h.no hd; rw [hp] at this; cases this), (fun hc => by rw [show s.op = false from hc] at ho; cases ho)⟩
    have := h.sum hd
    rw [hp] at this
    simp at this
    show r.sum = (s.b.drop x).length
    rw [List.length_drop]
    omega
theorem rmade_peek {w W : World} {c room : Nat} {dg : Bool} {K : Nat → En} {V : Nat → EV} {v : Value} {bs : List UInt8} (h : KMem w c dg room K V) (t : Turn NoBlock w W) (row : Byts v bs W) (hk : ∀ k, Blk v k → Blk (.slice none 0 0) k ∨ (k = w.heap.size ∧ k < W.heap.size)) : RMade w W c dg room V K v bs := by
  refine ⟨V, h.past t, TU t, fun k hk => .inl hk, row, fun k hk1 => ?_⟩
  rcases hk k hk1 with h1 | h1
  · exact (blk_nil k h1).elim
  · exact ⟨by omega, fun h2 => by have := h.lt h2; omega⟩
theorem rmade_drop {w W W' : World} {c room e : Nat} {dg : Bool} {K : Nat → En} {V : Nat → EV} {v : Value} {bs : List UInt8} {s' : En} {v' : EV} (h : KMem w c dg room K V) (he : e < 2) (t : Turn NoBlock w W) (row : Byts v bs W) (hk : ∀ k, Blk v k → Blk (.slice none 0 0) k ∨ (k = w.heap.size ∧ k < W.heap.size)) (st : EStep W W' c (kpl e) (V e) s' v') (hok : EOK dg room s') : RMade w W' c dg room V (updN K e s') v bs := by
  obtain ⟨V', h1, h2, h3⟩ := (h.past t).step he st hok
  have hold : ∀ k, Blk v k → w.heap.size ≤ k ∧ k < W.heap.size ∧ ¬ KFoot c V k := fun k hk1 => by
    rcases hk k hk1 with h4 | h4
    · exact (blk_nil k h4).elim
    · exact ⟨by omega, h4.2, fun h5 => by have := h.lt h5; omega⟩
  refine ⟨V', h1, (TU t).trans h2 (fun k hk => .inl hk), fun k hk1 => ?_, row.kept h2 (fun k hk1 => (hold k hk1).2.2), fun k hk1 => ⟨(hold k hk1).1, fun h4 => ?_⟩⟩
  · rcases h3 k hk1 with h4 | h4
    · exact .inl h4
    · right; have := t.size; omega
  · rcases h3 k h4 with h5 | h5
    · exact (hold k hk1).2.2 h5
    · have := (hold k hk1).2.1; omega
section
variable {w : World} {c room : Nat} {dg : Bool} {K : Nat → En} {V : Nat → EV}
theorem kread_bad (c : Nat) (e n : Int) (pk : Bool) (w : World) (h0 : e ≠ 0) (h1 : e ≠ 1) :
    Calls Try.prog 28 #[.pointer (some ⟨c, 0, none⟩), .int .i64 e, .int .i64 n, .bool pk] w fun x w' => x = .returned (.tuple #[.slice none 0 0, .int .i64 (-10)]) ∧ w = w' := by
  have HC := Lib.hid (fun W => kright_bad c e W h0 h1)
  clear h0 h1
  go_enter Try.func28, Try.ntmps28
  go_wp2_with (go_at_call 71; (with_reducible refine (HC.out _).mono ?_); rintro x w' ⟨rfl, rfl⟩)
  go_ret2
  exact ⟨rfl, rfl⟩
theorem kread_shut0 (h : KMem w c dg room K V) (ho : (K 0).op = false) (n : Int) (pk : Bool) :
    Calls Try.prog 28 #[.pointer (some ⟨c, 0, none⟩), .int .i64 0, .int .i64 n, .bool pk] w fun x w' => x = .returned (.tuple #[.slice none 0 0, .int .i64 (-24)]) ∧ w = w' := by
  have HC := Lib.hid (kright_no0 h ho)
  clear h ho
  go_enter Try.func28, Try.ntmps28
  go_wp2_with (go_at_call 71; (with_reducible refine HC.out.mono ?_); rintro x w' ⟨rfl, rfl⟩)
  go_ret2
  exact ⟨rfl, rfl⟩
theorem kread_neg0 (h : KMem w c dg room K V) (ho : (K 0).op = true) (n : Int) (hn : n < 0) (pk : Bool) :
    Calls Try.prog 28 #[.pointer (some ⟨c, 0, none⟩), .int .i64 0, .int .i64 n, .bool pk] w fun x w' => x = .returned (.tuple #[.slice none 0 0, .int .i64 (-10)]) ∧ w = w' := by
  have HC := Lib.hid (kright_yes0 h ho)
  clear h ho
  go_enter Try.func28, Try.ntmps28
  go_wp2_with (go_at_call 71; (with_reducible refine HC.out.mono ?_); rintro x w' ⟨rfl, rfl⟩)
  go_ret2
  exact ⟨rfl, rfl⟩
set_option maxHeartbeats 1000000 in
theorem kread_none0 (h : KMem w c dg room K V) (ho : (K 0).op = true) (hb : (K 0).b = []) (n : Int) (hn : 0 ≤ n) (pk : Bool) :
    Calls Try.prog 28 #[.pointer (some ⟨c, 0, none⟩), .int .i64 0, .int .i64 n, .bool pk] w fun x w' => x = .returned (.tuple #[.slice none 0 0, .int .i64 (rdS (K 1) (K 0))]) ∧ Turn NoBlock w w' := by
  have HC := Lib.hid (kright_yes0 h ho)
  have HW := kway1 h
  have CO := Lib.hid (fun w => kother0 w)
  obtain ⟨p, pc, hp⟩ := (h.s 0 (by omega)).rowB.sl
  have c3 : w.cell? ⟨c, 5, none⟩ = some (V 0).b := (h.s 0 (by omega)).c3
  rw [hp, hb] at c3
  simp only [List.length_nil] at c3
  have hn' : ¬ n < 0 := by omega
  have hs : (wayS (K 1) (K 0) = 0 ∧ rdS (K 1) (K 0) = -22) ∨ (wayS (K 1) (K 0) = -20 ∧ rdS (K 1) (K 0) = -20) ∨ (wayS (K 1) (K 0) = -24 ∧ rdS (K 1) (K 0) = -24) := by
    unfold rdS
    rcases wayS_any (K 1) (K 0) with h1 | h1 | h1
    · right; right; rw [h1.1]; exact ⟨rfl, rfl⟩
    · right; left; rw [h1.1]; exact ⟨rfl, rfl⟩
    · left; rw [h1.1]; exact ⟨rfl, rfl⟩
  generalize rdS (K 1) (K 0) = u at *
  generalize wayS (K 1) (K 0) = v at *
  clear h ho hp hb hn
  rcases hs with ⟨rfl, rfl⟩ | ⟨rfl, rfl⟩ | ⟨rfl, rfl⟩
  all_goals
    have HWh := Lib.hid HW
    clear HW
    go_enter Try.func28, Try.ntmps28
    go_wp2_with (first
      | (go_at_call 71; (with_reducible refine HC.out.mono ?_); rintro x w' ⟨rfl, rfl⟩)
      | (go_at_call 74; (with_reducible refine (CO.out _).mono ?_); rintro x w' ⟨rfl, rfl⟩)
      | (go_at_call 72; (with_reducible refine HWh.out.mono ?_); rintro x w' ⟨rfl, n2, rfl⟩))
    go_ret2
    exact ⟨rfl, (Turn.refl _ _).drewN _⟩
set_option maxRecDepth 20000 in
set_option maxHeartbeats 1000000 in
theorem kread_core0 (h : KMem w c dg room K V) (ho : (K 0).op = true) (h0 : 0 < (K 0).b.length) (n f m : Nat) (hf : f ≤ (K 0).b.length) (hm : (m = n ∧ n ≤ f) ∨ (m = f ∧ f < n)) (s' : En) (hok : EOK dg room s')
    (HFi : ∀ W, Turn NoBlock w W → Calls Try.prog 77 #[.pointer (some ⟨c, 2, none⟩)] W fun e w' => e = .returned (.int .i64 (f : Int)) ∧ W = w')
    (HDr : ∀ W, Turn NoBlock w W → Calls Try.prog 78 #[.pointer (some ⟨c, 2, none⟩), .int .i64 (m : Int)] W fun e w' => (∃ u, e = .returned u) ∧ ∃ v', EStep W w' c 2 (V 0) s' v') (pk : Bool) :
    Calls Try.prog 28 #[.pointer (some ⟨c, 0, none⟩), .int .i64 0, .int .i64 (n : Int), .bool pk] w fun x w' => ∃ v, x = .returned (.tuple #[v, .int .i64 0]) ∧ RMade w w' c dg room V (if pk then K else updN K 0 s') v ((K 0).b.take m) := by
  obtain ⟨i5, hi5, hz5, hs5, hb5⟩ := info_parts infoB
  have HC := Lib.hid (kright_yes0 h ho)
  have EA := h.s 0 (by omega)
  have c3 : w.cell? ⟨c, 5, none⟩ = some (V 0).b := EA.c3
  have hrk := EA.rowB.rk
  obtain ⟨p3, ca3, hv3⟩ := EA.rowB.sl
  rw [hv3] at c3 hrk
  have hmb : m ≤ (K 0).b.length := by omega
  obtain ⟨pn, cn, hsl, hrn⟩ := rk_take hrk hmb
  have hln : ((K 0).b.take m).length = m := by rw [List.length_take]; omega
  have hlb := (h.ok 0 (by omega)).len
  have hr2 := h.r2
  have SRC := Lib.hid (show Src Try.prog 1 35 (.slice pn m cn) m (bcells ((K 0).b.take m)) w by
    have := Rz.src hrn.rz 35 5 bytesT (bcells_one _)
    rwa [hln] at this)
  have LB := Lib.hid (show 0 + m ≤ maxLen ∧ (0 + m) * 1 ≤ 140737488355328 by unfold maxLen; omega)
  have HM := Lib.hid (And.intro h (And.intro hok (And.intro hv3 hln)))
  have HFh := Lib.hid HFi
  have HDh := Lib.hid HDr
  generalize hB : (K 0).b.take m = B at *
  have hnn : ¬ (n : Int) < 0 := by omega
  have hl0 : ¬ (((K 0).b.length : Nat) : Int) = 0 := by omega
  have hl1 : (((K 0).b.length : Nat) : Int) ≤ 1048576 := by omega
  have hmi : (m : Int) ≤ ((K 0).b.length : Nat) := by omega
  have HBB := Lib.hid hB
  clear h ho EA hrk hv3 hrn hln hlb hr2 HFi HDr hB hok
  generalize (K 0).b.length = kl at *
  have hmi2 : (m : Int) ≤ 1048576 := by omega
  have two : ((m : Int) = n ∧ (n : Int) ≤ f) ∨ ((m : Int) = f ∧ (f : Int) < n) := by omega
  clear hm hmb h0 hf
  have hcm : ((m : Nat) : Int) = n ∨ ((m : Nat) : Int) = f := by omega
  rcases two with ⟨hmn, hle⟩ | ⟨hmf, hlt⟩
  all_goals
    first
      | (obtain rfl : m = n := by omega
         clear hmn)
      | (obtain rfl : m = f := by omega
         clear hmf)
    clear hcm
    cases pk
    all_goals
      go_enter Try.func28, Try.ntmps28
      go_wp2_with (first
        | (go_at_call 71; (with_reducible refine HC.out.mono ?_); rintro x w' ⟨rfl, rfl⟩)
        | (go_at_call 77; (with_reducible refine (HFh.out _ (Turn.refl _ _)).mono ?_); rintro x w' ⟨rfl, rfl⟩)
        | (go_at_call 78; (with_reducible refine (HDh.out _ R7.out.2.1).mono ?_); rintro x w8 ⟨⟨u8, rfl⟩, v8, st8⟩)
        | (at_builtin; refine wpList_append_w rfl (.const (.slice none 0 0)) (.tmp 49) 35 35 rfl (wrow_nil _ 5 1) i5 _ 1 bytesT hi5 hz5 hs5 hb5 rfl rfl rfl SRC.out LB.out.1 LB.out.2 ?_; intro v7 W7 r7 t7 k7; rw [Nat.zero_add, List.nil_append] at r7; obtain ⟨p7, c7, rfl⟩ := r7.sl; have R7 := Lib.hid (And.intro r7 (And.intro (nil_turn t7) k7)); clear r7 t7 k7))
      go_ret2
      have row : Byts (.slice p7 m c7) B W7 := by unfold Byts; rw [HM.out.2.2.2]; exact R7.out.1
      first
        | exact ⟨.slice p7 m c7, rfl, rmade_drop HM.out.1 (e := 0) (by omega) R7.out.2.1 row R7.out.2.2 st8 HM.out.2.1⟩
        | exact ⟨.slice p7 m c7, rfl, rmade_peek HM.out.1 R7.out.2.1 row R7.out.2.2⟩
theorem kread_shut1 (h : KMem w c dg room K V) (ho : (K 1).op = false) (n : Int) (pk : Bool) :
    Calls Try.prog 28 #[.pointer (some ⟨c, 0, none⟩), .int .i64 1, .int .i64 n, .bool pk] w fun x w' => x = .returned (.tuple #[.slice none 0 0, .int .i64 (-24)]) ∧ w = w' := by
  have HC := Lib.hid (kright_no1 h ho)
  clear h ho
  go_enter Try.func28, Try.ntmps28
  go_wp2_with (go_at_call 71; (with_reducible refine HC.out.mono ?_); rintro x w' ⟨rfl, rfl⟩)
  go_ret2
  exact ⟨rfl, rfl⟩
theorem kread_neg1 (h : KMem w c dg room K V) (ho : (K 1).op = true) (n : Int) (hn : n < 0) (pk : Bool) :
    Calls Try.prog 28 #[.pointer (some ⟨c, 0, none⟩), .int .i64 1, .int .i64 n, .bool pk] w fun x w' => x = .returned (.tuple #[.slice none 0 0, .int .i64 (-10)]) ∧ w = w' := by
  have HC := Lib.hid (kright_yes1 h ho)
  clear h ho
  go_enter Try.func28, Try.ntmps28
  go_wp2_with (go_at_call 71; (with_reducible refine HC.out.mono ?_); rintro x w' ⟨rfl, rfl⟩)
  go_ret2
  exact ⟨rfl, rfl⟩
set_option maxHeartbeats 1000000 in
theorem kread_none1 (h : KMem w c dg room K V) (ho : (K 1).op = true) (hb : (K 1).b = []) (n : Int) (hn : 0 ≤ n) (pk : Bool) :
    Calls Try.prog 28 #[.pointer (some ⟨c, 0, none⟩), .int .i64 1, .int .i64 n, .bool pk] w fun x w' => x = .returned (.tuple #[.slice none 0 0, .int .i64 (rdS (K 0) (K 1))]) ∧ Turn NoBlock w w' := by
  have HC := Lib.hid (kright_yes1 h ho)
  have HW := kway0 h
  have CO := Lib.hid (fun w => kother1 w)
  obtain ⟨p, pc, hp⟩ := (h.s 1 (by omega)).rowB.sl
  have c3 : w.cell? ⟨c, 10, none⟩ = some (V 1).b := (h.s 1 (by omega)).c3
  rw [hp, hb] at c3
  simp only [List.length_nil] at c3
  have hn' : ¬ n < 0 := by omega
  have hs : (wayS (K 0) (K 1) = 0 ∧ rdS (K 0) (K 1) = -22) ∨ (wayS (K 0) (K 1) = -20 ∧ rdS (K 0) (K 1) = -20) ∨ (wayS (K 0) (K 1) = -24 ∧ rdS (K 0) (K 1) = -24) := by
    unfold rdS
    rcases wayS_any (K 0) (K 1) with h1 | h1 | h1
    · right; right; rw [h1.1]; exact ⟨rfl, rfl⟩
    · right; left; rw [h1.1]; exact ⟨rfl, rfl⟩
    · left; rw [h1.1]; exact ⟨rfl, rfl⟩
  generalize rdS (K 0) (K 1) = u at *
  generalize wayS (K 0) (K 1) = v at *
  clear h ho hp hb hn
  rcases hs with ⟨rfl, rfl⟩ | ⟨rfl, rfl⟩ | ⟨rfl, rfl⟩
  all_goals
    have HWh := Lib.hid HW
    clear HW
    go_enter Try.func28, Try.ntmps28
    go_wp2_with (first
      | (go_at_call 71; (with_reducible refine HC.out.mono ?_); rintro x w' ⟨rfl, rfl⟩)
      | (go_at_call 74; (with_reducible refine (CO.out _).mono ?_); rintro x w' ⟨rfl, rfl⟩)
      | (go_at_call 72; (with_reducible refine HWh.out.mono ?_); rintro x w' ⟨rfl, n2, rfl⟩))
    go_ret2
    exact ⟨rfl, (Turn.refl _ _).drewN _⟩
set_option maxRecDepth 20000 in
set_option maxHeartbeats 1000000 in
theorem kread_core1 (h : KMem w c dg room K V) (ho : (K 1).op = true) (h0 : 0 < (K 1).b.length) (n f m : Nat) (hf : f ≤ (K 1).b.length) (hm : (m = n ∧ n ≤ f) ∨ (m = f ∧ f < n)) (s' : En) (hok : EOK dg room s')
    (HFi : ∀ W, Turn NoBlock w W → Calls Try.prog 77 #[.pointer (some ⟨c, 7, none⟩)] W fun e w' => e = .returned (.int .i64 (f : Int)) ∧ W = w')
    (HDr : ∀ W, Turn NoBlock w W → Calls Try.prog 78 #[.pointer (some ⟨c, 7, none⟩), .int .i64 (m : Int)] W fun e w' => (∃ u, e = .returned u) ∧ ∃ v', EStep W w' c 7 (V 1) s' v') (pk : Bool) :
    Calls Try.prog 28 #[.pointer (some ⟨c, 0, none⟩), .int .i64 1, .int .i64 (n : Int), .bool pk] w fun x w' => ∃ v, x = .returned (.tuple #[v, .int .i64 0]) ∧ RMade w w' c dg room V (if pk then K else updN K 1 s') v ((K 1).b.take m) := by
  obtain ⟨i5, hi5, hz5, hs5, hb5⟩ := info_parts infoB
  have HC := Lib.hid (kright_yes1 h ho)
  have EA := h.s 1 (by omega)
  have c3 : w.cell? ⟨c, 10, none⟩ = some (V 1).b := EA.c3
  have hrk := EA.rowB.rk
  obtain ⟨p3, ca3, hv3⟩ := EA.rowB.sl
  rw [hv3] at c3 hrk
  have hmb : m ≤ (K 1).b.length := by omega
  obtain ⟨pn, cn, hsl, hrn⟩ := rk_take hrk hmb
  have hln : ((K 1).b.take m).length = m := by rw [List.length_take]; omega
  have hlb := (h.ok 1 (by omega)).len
  have hr2 := h.r2
  have SRC := Lib.hid (show Src Try.prog 1 35 (.slice pn m cn) m (bcells ((K 1).b.take m)) w by
    have := Rz.src hrn.rz 35 5 bytesT (bcells_one _)
    rwa [hln] at this)
  have LB := Lib.hid (show 0 + m ≤ maxLen ∧ (0 + m) * 1 ≤ 140737488355328 by unfold maxLen; omega)
  have HM := Lib.hid (And.intro h (And.intro hok (And.intro hv3 hln)))
  have HFh := Lib.hid HFi
  have HDh := Lib.hid HDr
  generalize hB : (K 1).b.take m = B at *
  have hnn : ¬ (n : Int) < 0 := by omega
  have hl0 : ¬ (((K 1).b.length : Nat) : Int) = 0 := by omega
  have hl1 : (((K 1).b.length : Nat) : Int) ≤ 1048576 := by omega
  have hmi : (m : Int) ≤ ((K 1).b.length : Nat) := by omega
  have HBB := Lib.hid hB
  clear h ho EA hrk hv3 hrn hln hlb hr2 HFi HDr hB hok
  generalize (K 1).b.length = kl at *
  have hmi2 : (m : Int) ≤ 1048576 := by omega
  have two : ((m : Int) = n ∧ (n : Int) ≤ f) ∨ ((m : Int) = f ∧ (f : Int) < n) := by omega
  clear hm hmb h0 hf
  have hcm : ((m : Nat) : Int) = n ∨ ((m : Nat) : Int) = f := by omega
  rcases two with ⟨hmn, hle⟩ | ⟨hmf, hlt⟩
  all_goals
    first
      | (obtain rfl : m = n := by omega
         clear hmn)
      | (obtain rfl : m = f := by omega
         clear hmf)
    clear hcm
    cases pk
    all_goals
      go_enter Try.func28, Try.ntmps28
      go_wp2_with (first
        | (go_at_call 71; (with_reducible refine HC.out.mono ?_); rintro x w' ⟨rfl, rfl⟩)
        | (go_at_call 77; (with_reducible refine (HFh.out _ (Turn.refl _ _)).mono ?_); rintro x w' ⟨rfl, rfl⟩)
        | (go_at_call 78; (with_reducible refine (HDh.out _ R7.out.2.1).mono ?_); rintro x w8 ⟨⟨u8, rfl⟩, v8, st8⟩)
        | (at_builtin; refine wpList_append_w rfl (.const (.slice none 0 0)) (.tmp 49) 35 35 rfl (wrow_nil _ 5 1) i5 _ 1 bytesT hi5 hz5 hs5 hb5 rfl rfl rfl SRC.out LB.out.1 LB.out.2 ?_; intro v7 W7 r7 t7 k7; rw [Nat.zero_add, List.nil_append] at r7; obtain ⟨p7, c7, rfl⟩ := r7.sl; have R7 := Lib.hid (And.intro r7 (And.intro (nil_turn t7) k7)); clear r7 t7 k7))
      go_ret2
      have row : Byts (.slice p7 m c7) B W7 := by unfold Byts; rw [HM.out.2.2.2]; exact R7.out.1
      first
        | exact ⟨.slice p7 m c7, rfl, rmade_drop HM.out.1 (e := 1) (by omega) R7.out.2.1 row R7.out.2.2 st8 HM.out.2.1⟩
        | exact ⟨.slice p7 m c7, rfl, rmade_peek HM.out.1 R7.out.2.1 row R7.out.2.2⟩
end
end Go.Proofs.Ytocaebcbmfejbaa
