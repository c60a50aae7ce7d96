/-
  The statement PagesOver answers true at all bytes and all numbers.
-/
import Derived.Test.YtdhbhigoboamfaaPAwake
namespace Go.Proofs.Ytdhbhigoboamfaa
open Go.ChangeShapes Go.WideShapes Go.ChangeAt Go.RowKit

def O1 : List Pg := [⟨1, blank⟩]
theorem ov_alloc {w : World} {a : Nat} {F : Nat → Prop} (h : PoolAt w a F (List.replicate 1 Pg.none)) : Calls Try.prog 32 #[.pointer (some ⟨a, 0, none⟩)] w fun x w' => x = .returned (.tuple #[.int .i64 0, .int .i64 0]) ∧ ∃ F', PoolAt w' a F' O1 ∧ Turn F w w' ∧ ∀ j, F' j → F j ∨ w.heap.size ≤ j := by
  have c := alloc_any h
  rw [show allocV (List.replicate 1 Pg.none) = 0 from by decide +kernel, show allocS (List.replicate 1 Pg.none) = 0 from by decide +kernel, show allocL (List.replicate 1 Pg.none) = O1 from by decide +kernel] at c
  exact c
/-- One frame of one user. -/
def OneP (l : List UInt8) : List Pg := [⟨1, l⟩]
theorem one_at (l : List UInt8) : pgAt (OneP l) 0 = ⟨1, l⟩ := rfl
theorem one_write (l : List UInt8) (b n : Int) : writeS (OneP l) 0 b n = if inB b n = true then 0 else -14 := by
  unfold writeS withinS usersL
  rw [one_at]
  simp only [Nat.one_ne_zero, if_false, Nat.lt_irrefl]
  split
  · simp
  · simp
theorem one_writeL (l : List UInt8) (b : Int) (bs : List UInt8) : writeL (OneP l) 0 b bs = if inB b bs.length = true then OneP (putB l b.toNat bs) else OneP l := by
  unfold writeL
  rw [one_write]
  by_cases h : inB b bs.length = true
  · rw [if_pos h, if_pos h, if_pos rfl]; rfl
  · rw [if_neg h, if_neg h, if_neg (by decide)]

/-- Bytes laid over others, in a slice of the call's own. -/
theorem copy_in (w : World) (gw o m n sc dc : Nat) (D sp : Option Addr) (xs bs : List UInt8) (hD : 0 < n → D = some ⟨gw, o, none⟩) (hm : n ≤ m) (hb : o + n ≤ 64) (hx : xs.length = 64) (hbl : bs.length = n) (hv : Src w (.slice sp n sc) bs)
    (hown : Byts (.slice (some ⟨gw, 0, none⟩) 64 64) xs w) :
    ∃ W, (∀ ty, (Builtin.copy_ #[22, 22] ty #[.slice D m dc, .slice sp n sc]).run Try.prog w = .ok (goInt n) W) ∧ Byts (.slice (some ⟨gw, 0, none⟩) 64 64) (putB xs o bs) W ∧ Turn (fun j => j = gw) w W := by
  have hl : (putB xs o bs).length = 64 := by rw [putB_len (by omega), hx]
  unfold Byts at hown ⊢
  rw [hx] at hown
  have hput := own_putAt (bcells bs) o w (bcells xs) hown (by rw [bcells_len, bcells_len, hx, hbl]; omega)
  have e : putAt (bcells xs) o (bcells bs) = bcells (putB xs o bs) := by
    unfold putAt putB
    rw [bcells_len]
    simp [bcells]
  rw [e] at hput
  rw [hl]
  refine ⟨w.setCells gw o (bcells bs), fun ty => ?_, hput, turn_setCells (F := fun j => j = gw) rfl _ _ _ _ (Turn.refl _ _)⟩
  by_cases h0 : n = 0
  · subst h0
    obtain rfl : bs = [] := List.eq_nil_of_length_eq_zero hbl
    exact run_copy_none (P := Try.prog) w 22 22 ty 5 D sp m dc 0 sc bytes31 elem5 (Nat.zero_min _)
  · rw [hD (by omega)]
    rcases hv with ⟨h1, h2⟩ | ⟨g', off, c, h1, h2⟩
    · subst h2; simp at hbl; omega
    · simp only [Value.slice.injEq] at h1
      obtain ⟨rfl, -, rfl⟩ := h1
      have := run_copy_cells (P := Try.prog) w 22 22 ty 5 gw o m dc ⟨g', off, none⟩ n sc (bcells bs) bytes31 elem5 (by rw [bcells_len, hbl]; exact (Nat.min_eq_left (by omega)).symm) (fun j v hj => ?_) (fun j hj => ?_) (fun j _ => hown.frozenAt _) (bcells_one bs)
      · rw [bcells_len, hbl] at this
        exact this
      · have hlt : j < bs.length := by
          have := (List.getElem?_eq_some_iff.1 hj).1
          rwa [bcells_len] at this
        rw [Addr.add_mid, h2 j hlt, ← hj]
        simp [bcells, List.getD, List.getElem?_eq_getElem hlt]
      · rw [bcells_len, hbl] at hj
        rw [hown.cellAt (o + j) (by omega), List.getElem?_eq_getElem (by rw [bcells_len]; omega)]; rfl

theorem over_past (pa pb : Option Addr) (la ca lb cb : Nat) (b : Int) (w : World) (h : 64 < la) :
    Calls Try.prog 12 #[.slice pa la ca, .slice pb lb cb, .int .i64 b] w fun e w' => e = .returned (.bool true) ∧ Turn NoBlock w w' := by
  have c1 : Calls Try.prog 30 #[.int .i64 1] w _ := new_yes 1 w (by omega)
  have hl : (64 : Int) < (la : Int) := by omega
  go_enter Try.func12, Try.ntmps12
  go_wp2_with (first
    | (go_at_call 30; (with_reducible refine c1.mono ?_); rintro x w1 ⟨rfl, F1, h1, t1, l1⟩; have K1 := Lib.hid t1; clear h1 t1 l1)
    | (go_at_call 31; (with_reducible refine (awake_b K1.out).mono ?_); rintro x w2 ⟨rfl, t2⟩; have K2 := Lib.hid t2; clear t2))
  go_ret
  exact ⟨rfl, K2.out⟩

/-- The pool, behind what came in. -/
structure OSt (w wr : World) (a : Nat) (F : Nat → Prop) (L : List Pg) : Prop where
  pool : PoolAt wr a F L
  turn : Turn NoBlock w wr
  fresh : ∀ j, F j → w.heap.size ≤ j
theorem OSt.step {w wr w' : World} {a : Nat} {F F' : Nat → Prop} {L L' : List Pg} (h : OSt w wr a F L) (hp : PoolAt w' a F' L') (t : Turn F wr w') (hs : ∀ j, F' j → F j ∨ wr.heap.size ≤ j) : OSt w w' a F' L' := by
  have h1 := h.turn.size
  refine ⟨hp, h.turn.trans t (fun j hj => .inr (h.fresh j hj)), fun j hj => ?_⟩
  rcases hs j hj with h2 | h2
  · exact h.fresh j h2
  · omega
theorem OSt.same {w wr w' : World} {a : Nat} {F : Nat → Prop} {L L' : List Pg} (h : OSt w wr a F L) (hp : PoolAt w' a F L') (t : Turn F wr w') : OSt w w' a F L' := h.step hp t (fun _ hj => .inl hj)
theorem OSt.past {w wr w' : World} {a : Nat} {F : Nat → Prop} {L : List Pg} (h : OSt w wr a F L) (t : Turn NoBlock wr w') : OSt w w' a F L := ⟨h.pool.past t, h.turn.trans t (fun _ h => .inl h), h.fresh⟩
/-- Something of the call's own beside the pool was written. -/
theorem OSt.beside {w wr w' : World} {a g : Nat} {F : Nat → Prop} {L : List Pg} (h : OSt w wr a F L) (t : Turn (fun j => j = g) wr w') (hg : w.heap.size ≤ g) (hn : ¬ F g) : OSt w w' a F L :=
  ⟨(pool_own a F L).kept _ _ _ h.pool t (fun j hj e => hn (by rw [← e]; exact hj)), h.turn.trans t (fun j hj => .inr (by subst hj; exact hg)), h.fresh⟩

/-- 'want[b:]': the slice from a place on. -/
theorem win_from (g b : Nat) (hb : b ≤ 64) : ∃ D : Addr, (∀ w, Sem.run Try.prog (Instr.slice 22 (.slice (some ⟨g, 0, none⟩) 64 64) (some (.int .i64 (b : Int))) none none) w = .ok (.slice (some D) (64 - b) (64 - b)) w) ∧ (b < 64 → D = ⟨g, b, none⟩) := by
  refine ⟨if 64 = b then ⟨g, 0, none⟩ else (⟨g, 0, none⟩ : Addr).add (b * 1), fun w => ?_, fun h => by rw [if_neg (by omega)]; simp [Addr.add]; omega⟩
  have ht : Try.prog.underlying 22 = some (.slice (Try.prog.elem 22)) := by kernel_rfl
  have hsz : (sizeOf (Try.prog.elem 22)).run Try.prog w = .ok 1 w := by kernel_rfl
  have := run_slice_l (P := Try.prog) w 22 (some ⟨g, 0, none⟩) 64 64 ht .i64 (b : Int) (by omega) (by omega)
  rw [hsz] at this
  simp only [Result.andThen, Int.toNat_natCast] at this
  rw [this]
  by_cases h0 : 64 = b
  · subst h0; simp [sliced]
  · simp [sliced, h0]
theorem made_blank : (madeCells (Value.int .u8 0).cells (64 * 1)).toList = bcells blank := by kernel_rfl
/-- Bytes of the call's own and what a call on the pool does to others. -/
theorem Byts.beside {w w' : World} {g : Nat} {F : Nat → Prop} {bs : List UInt8} (h : Byts (.slice (some ⟨g, 0, none⟩) 64 64) bs w) (t : Turn F w w') (hn : ¬ F g) : Byts (.slice (some ⟨g, 0, none⟩) 64 64) bs w' :=
  (own_byts _ bs).kept _ _ _ h t (fun j hj e => by
    simp [Blk, Value.ownBlock] at hj
    subst hj; exact hn e)
set_option maxRecDepth 20000 in
set_option maxHeartbeats 4000000 in
theorem over_walk (pa pb : Option Addr) (la ca lb cb : Nat) (b : Int) (xa xb : List UInt8) (w : World) (hla : la ≤ 64) (ha : xa.length = la) (hb : xb.length = lb) (hva : Src w (.slice pa la ca) xa) (hvb : Src w (.slice pb lb cb) xb) (hlb : lb ≤ 9223372036854775807) :
    Calls Try.prog 12 #[.slice pa la ca, .slice pb lb cb, .int .i64 b] w fun e w' => e = .returned (.bool true) ∧ Turn NoBlock w w' := by
  obtain ⟨i, hi, hz0, hz1, hz2⟩ := info_parts info5
  have c1 : Calls Try.prog 30 #[.int .i64 1] w _ := new_yes 1 w (by omega)
  obtain ⟨a, haw⟩ : ∃ a, w.heap.size = a := ⟨_, rfl⟩
  rw [haw] at c1
  have hl : ¬ (64 : Int) < (la : Int) := by omega
  have HSa := Lib.hid (fun w' (t : Turn NoBlock w w') => hva.past t)
  have HSb := Lib.hid (fun w' (t : Turn NoBlock w w') => hvb.past t)
  have q1 : i.bytes * 64 ≤ 281474976710656 := by rw [hz2]; omega
  have q2 : (64 : Nat) ≤ maxLen := by unfold maxLen; omega
  have Hab := Lib.hid (And.intro ha hb)
  have Haw := Lib.hid haw
  have hia : inB 0 la = true := by unfold inB; exact decide_eq_true (by omega)
  have hi64 : inB 0 64 = true := by decide
  -- the writes and the read, as contracts
  have HW1 := Lib.hid (fun w' F (h : PoolAt w' a F O1) (hs : Src w' (.slice pa la ca) xa) => by
    have c := write_any h 0 0 (.slice pa la ca) xa hs
    rw [show O1 = OneP blank from rfl, one_write, one_writeL, ha, if_pos hia, if_pos hia] at c
    exact c)
  have HW2 := Lib.hid (fun w' F (h : PoolAt w' a F (OneP (putB blank (0 : Int).toNat xa))) (hs : Src w' (.slice pb lb cb) xb) => by
    have c := write_any h 0 b (.slice pb lb cb) xb hs
    rw [one_write, one_writeL, hb] at c
    exact c)
  have hpl : (putB blank (0 : Int).toNat xa).length = 64 := by rw [putB_len (by rw [ha]; show 0 + la ≤ 64; omega)]; rfl
  have HR := Lib.hid (fun w' F (L : List UInt8) (h : PoolAt w' a F (OneP L)) (hl : L.length = 64) => by
    have hw : withinS (OneP L) 0 0 64 = 0 := by
      unfold withinS usersL
      rw [one_at, hi64]; rfl
    have c := read_any h 0 0 64 hw
    rw [show readB (OneP L) 0 0 64 = L from by unfold readB; rw [one_at]; show (L.drop 0).take 64 = L; rw [List.drop_zero, List.take_of_length_le (by omega)]] at c
    exact c)
  have HPl := Lib.hid hpl
  clear hva hvb ha hb haw hia hi64 hpl
  have hcs : (b < 0 ∧ inB b lb = false) ∨ (0 ≤ b ∧ 64 < b ∧ inB b lb = false) ∨ (0 ≤ b ∧ b ≤ 64 ∧ 64 - b < (lb : Int) ∧ inB b lb = false) ∨ (0 ≤ b ∧ b ≤ 64 ∧ (lb : Int) ≤ 64 - b ∧ inB b lb = true) := by
    unfold inB
    by_cases h1 : b < 0
    · exact .inl ⟨h1, decide_eq_false (by omega)⟩
    · by_cases h2 : 64 < b
      · exact .inr (.inl ⟨by omega, h2, decide_eq_false (by omega)⟩)
      · by_cases h3 : 64 - b < (lb : Int)
        · exact .inr (.inr (.inl ⟨by omega, by omega, h3, decide_eq_false (by omega)⟩))
        · exact .inr (.inr (.inr ⟨by omega, by omega, by omega, decide_eq_true (by omega)⟩))
  rcases hcs with ⟨g1, g2⟩ | ⟨g1, g3, g2⟩ | ⟨g1, g3, g4, g2⟩ | ⟨g1, g3, g4, g2⟩
  rotate_right
  · obtain ⟨o, rfl⟩ : ∃ o : Nat, b = o := ⟨b.toNat, by omega⟩
    simp only [g2, if_true, Int.toNat_natCast] at HW2
    clear g2
    have HPl2 := Lib.hid (show (putB (putB blank (0 : Int).toNat xa) o xb).length = 64 from by rw [putB_len (by rw [HPl.out, Hab.out.2]; omega)]; exact HPl.out)
    go_enter Try.func12, Try.ntmps12
    go_wp2_with (first
      | (go_at_call 30; (with_reducible refine c1.mono ?_); rintro x w1 ⟨rfl, F1, h1, t1, l1⟩; have K1 := Lib.hid (show OSt w w1 a F1 (List.replicate 1 Pg.none) from ⟨h1, t1, fun j hj => by rw [Haw.out]; exact l1 j hj⟩); clear h1 t1 l1)
      | (go_at_call 32; (with_reducible refine (ov_alloc K1.out.pool).mono ?_); rintro x w2 ⟨rfl, F2, h2, t2, l2⟩; have K2 := Lib.hid (K1.out.step h2 t2 l2); clear h2 t2 l2)
      | (go_at_call 41; (with_reducible refine (HW1.out _ _ K2.out.pool (HSa.out _ K2.out.turn)).mono ?_); rintro x w3 ⟨rfl, h3, t3⟩; have K3 := Lib.hid (K2.out.same h3 t3); clear h3 t3)
      | (at_make; refine wpList_make_full _ rfl (.const (.int .i64 64)) (.const (.int .i64 64)) 22 rfl 0 5 i _ 1 bytes31 hi hz0 hz1 .i64 .i64 _ _ 64 rfl rfl rfl rfl q1 q2 (Nat.zero_le _) ?_; intro w4 hown hgrow; have T4 := Lib.hid (show Turn NoBlock _ w4 from (Turn.refl NoBlock _).grown hgrow (fun k e => by cases e)); have K4 := Lib.hid (K3.out.past T4.out); obtain ⟨W, hcp, hB, hTW⟩ := copy_in w4 _ 0 64 la ca 64 _ pa blank xa (fun _ => rfl) hla (by omega) rfl Hab.out.1 (HSa.out _ K4.out.turn) (show Byts _ blank w4 from made_blank ▸ hown); have K5 := Lib.hid (K4.out.beside hTW (Nat.le_trans K3.out.turn.size (Nat.le_refl _)) (fun hf => Nat.lt_irrefl _ (K3.out.pool.lt hf))); have B5 := Lib.hid hB; have N5 := Lib.hid (show ¬ F2 w3.heap.size from fun hf => Nat.lt_irrefl _ (K3.out.pool.lt hf)); clear hown hgrow hB hTW)
      | (go_at_call 41; (with_reducible refine (HW2.out _ _ K5.out.pool (HSb.out _ K5.out.turn)).mono ?_); rintro x w6 ⟨rfl, h6, t6⟩; have K6' := Lib.hid (K5.out.same h6 t6); have B6' := Lib.hid (B5.out.beside t6 N5.out); clear h6 t6; obtain ⟨D, hsl, hD⟩ := win_from w3.heap.size o (by omega); obtain ⟨W6, hcp6, hB6, hTW6⟩ := copy_in _ w3.heap.size o (64 - o) lb cb (64 - o) (some D) pb _ xb (fun h => by rw [hD (by omega)]) (by omega) (by omega) HPl.out Hab.out.2 (HSb.out _ K6'.out.turn) B6'.out; have K6 := Lib.hid (K6'.out.beside hTW6 (Nat.le_trans K3.out.turn.size (Nat.le_refl _)) N5.out); have B6 := Lib.hid hB6; clear hB6 hTW6 hD)
      | (go_at_call 39; (with_reducible refine (HR.out _ _ _ K6.out.pool HPl2.out).mono ?_); rintro x w7 ⟨v, rfl, bv, -, t7⟩; have K7 := Lib.hid (K6.out.past t7); have B7 := Lib.hid (And.intro bv.src (B6.out.beside t7 (fun e => e)).src); clear bv t7)
      | (go_at_call 21; (with_reducible refine (same_any _ _ _ _ B7.out.1 B7.out.2).mono ?_); rintro x w8 ⟨rfl, rfl⟩)
      | (go_at_call 31; (with_reducible refine (awake_b (K7.out.turn)).mono ?_); rintro x w9 ⟨rfl, t9⟩; have K9 := Lib.hid t9; clear t9))
    go_ret
    exact ⟨rfl, K9.out⟩
  all_goals
    simp only [g2, Bool.false_eq_true, if_false] at HW2
    clear g2
    go_enter Try.func12, Try.ntmps12
    go_wp2_with (first
      | (go_at_call 30; (with_reducible refine c1.mono ?_); rintro x w1 ⟨rfl, F1, h1, t1, l1⟩; have K1 := Lib.hid (show OSt w w1 a F1 (List.replicate 1 Pg.none) from ⟨h1, t1, fun j hj => by rw [Haw.out]; exact l1 j hj⟩); clear h1 t1 l1)
      | (go_at_call 32; (with_reducible refine (ov_alloc K1.out.pool).mono ?_); rintro x w2 ⟨rfl, F2, h2, t2, l2⟩; have K2 := Lib.hid (K1.out.step h2 t2 l2); clear h2 t2 l2)
      | (go_at_call 41; (with_reducible refine (HW1.out _ _ K2.out.pool (HSa.out _ K2.out.turn)).mono ?_); rintro x w3 ⟨rfl, h3, t3⟩; have K3 := Lib.hid (K2.out.same h3 t3); clear h3 t3)
      | (at_make; refine wpList_make_full _ rfl (.const (.int .i64 64)) (.const (.int .i64 64)) 22 rfl 0 5 i _ 1 bytes31 hi hz0 hz1 .i64 .i64 _ _ 64 rfl rfl rfl rfl q1 q2 (Nat.zero_le _) ?_; intro w4 hown hgrow; have T4 := Lib.hid (show Turn NoBlock _ w4 from (Turn.refl NoBlock _).grown hgrow (fun k e => by cases e)); have K4 := Lib.hid (K3.out.past T4.out); obtain ⟨W, hcp, hB, hTW⟩ := copy_in w4 _ 0 64 la ca 64 _ pa blank xa (fun _ => rfl) hla (by omega) rfl Hab.out.1 (HSa.out _ K4.out.turn) (show Byts _ blank w4 from made_blank ▸ hown); have K5 := Lib.hid (K4.out.beside hTW (Nat.le_trans K3.out.turn.size (Nat.le_refl _)) (fun hf => Nat.lt_irrefl _ (K3.out.pool.lt hf))); have B5 := Lib.hid hB; have N5 := Lib.hid (show ¬ F2 w3.heap.size from fun hf => Nat.lt_irrefl _ (K3.out.pool.lt hf)); clear hown hgrow hB hTW)
      | (go_at_call 41; (with_reducible refine (HW2.out _ _ K5.out.pool (HSb.out _ K5.out.turn)).mono ?_); rintro x w6 ⟨rfl, h6, t6⟩; have K6 := Lib.hid (K5.out.same h6 t6); have B6 := Lib.hid (B5.out.beside t6 N5.out); clear h6 t6)
      | (go_at_call 39; (with_reducible refine (HR.out _ _ _ K6.out.pool HPl.out).mono ?_); rintro x w7 ⟨v, rfl, bv, -, t7⟩; have K7 := Lib.hid (K6.out.past t7); have B7 := Lib.hid (And.intro bv.src (B6.out.beside t7 (fun e => e)).src); clear bv t7)
      | (go_at_call 21; (with_reducible refine (same_any _ _ _ _ B7.out.1 B7.out.2).mono ?_); rintro x w8 ⟨rfl, rfl⟩)
      | (go_at_call 31; (with_reducible refine (awake_b (K7.out.turn)).mono ?_); rintro x w9 ⟨rfl, t9⟩; have K9 := Lib.hid t9; clear t9))
    go_ret
    exact ⟨rfl, K9.out⟩
end Go.Proofs.Ytdhbhigoboamfaa
