/-
  What Write of a pool answers, and what it makes of its frames. No conditions but that the pool is one that calls can make, and that the bytes lie apart from it.
-/
import Derived.Test.YtgcjjgljllephaaPUsers
import Derived.Laws.IdiomCopy
namespace Go.Proofs.Ytgcjjgljllephaa
open Go.ChangeShapes Go.WideShapes Go.ChangeAt Go.RowKit

/-- Bytes that can be read, wherever they lie. -/
def Src (W : World) (v : Value) (bs : List UInt8) : Prop :=
  ((∃ p c, v = .slice p 0 c) ∧ bs = []) ∨ ∃ g off c, v = .slice (some ⟨g, off, none⟩) bs.length c ∧ ∀ j, j < bs.length → W.cell? ⟨g, off + j, none⟩ = some (.int .u8 ((bs.getD j 0).toNat : Int))
theorem Src.past {w w' : World} {v : Value} {bs : List UInt8} (h : Src w v bs) (ht : Turn NoBlock w w') : Src w' v bs := by
  rcases h with h | ⟨g, off, c, rfl, hc⟩
  · exact .inl h
  · exact .inr ⟨g, off, c, rfl, fun j hj => ht.cell (hc j hj) (fun h => h)⟩
theorem Src.slice {w : World} {v : Value} {bs : List UInt8} (h : Src w v bs) : ∃ p c, v = .slice p bs.length c := by
  rcases h with ⟨⟨p, c, rfl⟩, rfl⟩ | ⟨g, off, c, rfl, _⟩
  · exact ⟨p, c, rfl⟩
  · exact ⟨_, c, rfl⟩

def putB (l : List UInt8) (o : Nat) (bs : List UInt8) : List UInt8 := l.take o ++ (bs ++ l.drop (o + bs.length))
theorem putB_len {l : List UInt8} {o : Nat} {bs : List UInt8} (h : o + bs.length ≤ l.length) : (putB l o bs).length = l.length := by simp [putB]; omega
theorem put_bytes (p : Pg) (o : Nat) (bs : List UInt8) : putAt p.cells (1 + o) (bcells bs) = Pg.cells ⟨p.users, putB p.bytes o bs⟩ := by
  unfold putAt Pg.cells putB
  rw [Nat.add_comm 1 o, List.take_succ_cons, bcells_len, show o + 1 + bs.length = (o + bs.length) + 1 by omega, List.drop_succ_cons]
  simp [bcells]

def writeS (L : List Pg) (f b n : Int) : Int := if withinS L f b n ≠ 0 then withinS L f b n else if 1 < usersL L f then -20 else 0
def writeL (L : List Pg) (f b : Int) (bs : List UInt8) : List Pg := if writeS L f b bs.length = 0 then L.set f.toNat ⟨usersL L f, putB (pgAt L f).bytes b.toNat bs⟩ else L

section
variable {w : World} {a cap : Nat} {vs vf : Value} {ps : List Pg} {fr : List Nat}
theorem write_no {F : Nat → Prop} {L : List Pg} (h : PoolAt w a F L) (f b : Int) (p : Option Addr) (n c : Nat) (hs : writeS L f b n ≠ 0) :
    Calls Try.prog 25 #[.pointer (some ⟨a, 0, none⟩), .int .i64 f, .int .i64 b, .slice p n c] w fun e w' => e = .returned (.int .i64 (writeS L f b n)) ∧ w = w' := by
  have c1 := within_any h f b n
  have c2 := users_any h f
  clear h
  unfold writeS at hs ⊢
  by_cases h0 : withinS L f b n = 0
  · rw [if_neg (by simpa using h0)] at hs ⊢
    have h1 : 1 < usersL L f := by
      by_cases h1 : 1 < usersL L f
      · exact h1
      · rw [if_neg h1] at hs; simp at hs
    rw [if_pos h1]
    rw [h0] at c1
    have h2 : (1 : Int) < ((usersL L f : Nat) : Int) := by omega
    generalize ((usersL L f : Nat) : Int) = u at *
    clear hs h0 h1
    go_enter Try.func25, Try.ntmps25
    go_wp2_with (first | (go_at_call 42; (with_reducible refine c1.mono ?_); rintro e w' ⟨rfl, rfl⟩) | (go_at_call 27; (with_reducible refine c2.mono ?_); rintro e w' ⟨rfl, rfl⟩))
    go_ret
    exact ⟨rfl, rfl⟩
  · rw [if_pos h0]
    have hb : (withinS L f b n != 0) = true := by simp [h0]
    generalize withinS L f b n = S at *
    clear hs h0 c2
    go_enter Try.func25, Try.ntmps25
    go_wp2_with (go_at_call 42; (with_reducible refine c1.mono ?_); rintro e w' ⟨rfl, rfl⟩)
    go_ret
    exact ⟨rfl, rfl⟩

theorem elem5 : (Try.prog.info? 5).map (·.size) = some 1 := by kernel_rfl
theorem bytes31 : Try.prog.underlying 31 = some (.slice 5) := by kernel_rfl

/-- A slice of a frame's bytes, from a place on. -/
theorem slice_from (g o b : Nat) (hb : b ≤ 64) : ∃ D : Addr, (∀ w, Sem.run Try.prog (Instr.sliceAt 86 (.pointer (some ⟨g, o, none⟩)) (some (.int .i64 (b : Int))) none none) w = .ok (.slice (some D) (64 - b) (64 - b)) w) ∧ (b < 64 → D = ⟨g, o + b, none⟩) := by
  refine ⟨if 64 = b then ⟨g, o, none⟩ else (⟨g, o, none⟩ : Addr).add (b * 1), fun w => ?_, fun h => by rw [if_neg (by omega)]; simp [Addr.add]⟩
  have ht : Try.prog.underlying 86 = some (.array (Try.prog.arrayLen 86) (Try.prog.elem 86)) := by kernel_rfl
  have e64 : Try.prog.arrayLen 86 = 64 := by kernel_rfl
  have hsz : (sizeOf (Try.prog.elem 86)).run Try.prog w = .ok 1 w := by kernel_rfl
  have := run_sliceAt_array_l (P := Try.prog) w 86 ⟨g, o, none⟩ ht .i64 (b : Int) (by omega) (by rw [e64]; omega)
  rw [hsz, e64] at this
  simp only [Result.andThen, Int.toNat_natCast] at this
  exact this
theorem copy_bytes (w : World) (g o b n : Nat) (D : Addr) (sp : Option Addr) (sc : Nat) (bs : List UInt8) (hD : b < 64 → D = ⟨g, o + b, none⟩) (hb : b + n ≤ 64) (hbl : bs.length = n) (hv : Src w (.slice sp n sc) bs)
    (hc : ∀ j, j < 64 → (w.cell? ⟨g, o + j, none⟩).isSome = true) (hf : ∀ j, w.frozen? ⟨g, j, none⟩ = false) :
    ∀ ty, (Builtin.copy_ #[31, 31] ty #[.slice (some D) (64 - b) (64 - b), .slice sp n sc]).run Try.prog w = .ok (goInt n) (w.setCells g (o + b) (bcells bs)) := by
  intro ty
  by_cases h0 : n = 0
  · subst h0
    obtain rfl : bs = [] := List.eq_nil_of_length_eq_zero hbl
    exact run_copy_none (P := Try.prog) w 31 31 ty 5 (some D) sp (64 - b) (64 - b) 0 sc bytes31 elem5 (Nat.zero_min _)
  · rw [hD (by omega)]
    rcases hv with ⟨h1, h2⟩ | ⟨g', off, c, h1, h2⟩
    · subst h2; simp at hbl; omega
    · simp only [Value.slice.injEq] at h1
      obtain ⟨rfl, -, rfl⟩ := h1
      have := run_copy_cells (P := Try.prog) w 31 31 ty 5 g (o + b) (64 - b) (64 - b) ⟨g', off, none⟩ n sc (bcells bs) bytes31 elem5 (by rw [bcells_len, hbl]; exact (Nat.min_eq_left (by omega)).symm) (fun j v hj => ?_) (fun j hj => ?_) (fun j _ => hf _) (bcells_one bs)
      · rw [bcells_len, hbl] at this
        exact this
      · have hlt : j < bs.length := by
          have := (List.getElem?_eq_some_iff.1 hj).1
          rwa [bcells_len] at this
        rw [Addr.add_mid, h2 j hlt, ← hj]
        simp [bcells, List.getD, List.getElem?_eq_getElem hlt]
      · rw [bcells_len, hbl] at hj
        have := hc (b + j) (by omega)
        rwa [← Nat.add_assoc] at this

set_option maxRecDepth 20000 in
theorem write_mem (h : PMem w a vs vf cap ps fr) (ok : POK cap ps fr) (k : Nat) (p : Pg) (hp : ps[k]? = some p) (hu : p.users = 1) (b : Nat) (v : Value) (bs : List UInt8) (hv : Src w v bs) (hb : b + bs.length ≤ 64)
    (c1 : Calls Try.prog 42 #[.pointer (some ⟨a, 0, none⟩), .int .i64 k, .int .i64 b, .int .i64 bs.length] w fun e w' => e = .returned (.int .i64 0) ∧ w = w')
    (c2 : Calls Try.prog 27 #[.pointer (some ⟨a, 0, none⟩), .int .i64 k] w fun e w' => e = .returned (.int .i64 1) ∧ w = w') :
    Calls Try.prog 25 #[.pointer (some ⟨a, 0, none⟩), .int .i64 k, .int .i64 b, v] w fun e w' => e = .returned (.int .i64 0) ∧
      PMem w' a vs vf cap (ps.set k ⟨1, putB p.bytes b bs⟩) fr ∧ Turn (Foot a vs vf) w w' := by
  obtain ⟨g, c, rfl, g1, g2, g3, g4, g5, g6, -, -, g7, g10⟩ := h.page hp
  have d1 := h.c1
  obtain ⟨sp, sc, rfl⟩ := hv.slice
  have hsz := h.sized k p hp
  have HP := Lib.hid (h.put (o := 1 + b) (cs := bcells bs) ⟨p.users, putB p.bytes b bs⟩ hp (by rw [putB_len (by omega)]; exact hsz) (by rw [bcells_len]; omega) (put_bytes p b bs))
  rw [hu] at HP
  have hlen : ps.length ≤ 65536 := by have := ok.len; have := ok.top; omega
  generalize ps.length = N at *
  obtain ⟨n, hbl'⟩ : ∃ n, bs.length = n := ⟨_, rfl⟩
  rw [hbl'] at hb c1 hv ⊢
  clear h ok hp hu hsz
  obtain ⟨D, hsl, hD⟩ := slice_from g (k * 65 + 1) b (by omega)
  have hcp := copy_bytes w g (k * 65 + 1) b n D sp sc bs hD hb hbl' hv (fun j hj => by rw [Nat.add_assoc]; exact g7 (1 + j) (by omega)) g10
  rw [Nat.add_assoc] at hcp
  generalize w.setCells g (k * 65 + (1 + b)) (bcells bs) = W at *
  clear hD hv g7 g10
  go_enter Try.func25, Try.ntmps25
  go_wp2_with (first | (go_at_call 42; (with_reducible refine c1.mono ?_); rintro e w' ⟨rfl, rfl⟩) | (go_at_call 27; (with_reducible refine c2.mono ?_); rintro e w' ⟨rfl, rfl⟩))
  go_ret
  exact ⟨rfl, HP.out.1, HP.out.2.mono (fun j hj => .inl (by subst hj; exact .inr (.inl rfl)))⟩
end
theorem write_any {w : World} {a : Nat} {F : Nat → Prop} {L : List Pg} (h : PoolAt w a F L) (f b : Int) (v : Value) (bs : List UInt8) (hv : Src w v bs) :
    Calls Try.prog 25 #[.pointer (some ⟨a, 0, none⟩), .int .i64 f, .int .i64 b, v] w fun e w' => e = .returned (.int .i64 (writeS L f b bs.length)) ∧ PoolAt w' a F (writeL L f b bs) ∧ Turn F w w' := by
  by_cases hs : writeS L f b bs.length = 0
  · unfold writeL
    rw [if_pos hs, hs]
    have c1 := within_any h f b bs.length
    have c2 := users_any h f
    unfold writeS at hs
    have h0 : withinS L f b bs.length = 0 := by
      by_cases h0 : withinS L f b bs.length = 0
      · exact h0
      · rw [if_pos h0] at hs; exact hs
    rw [if_neg (by simpa using h0)] at hs
    have h1 : ¬ 1 < usersL L f := fun h => by rw [if_pos h] at hs; simp at hs
    have h2 : usersL L f ≠ 0 := fun h => by unfold withinS at h0; rw [if_pos h] at h0; simp at h0
    have h3 : inB b bs.length = true := by
      unfold withinS at h0
      rw [if_neg h2] at h0
      by_cases h3 : inB b bs.length = true
      · exact h3
      · rw [if_neg h3] at h0; simp at h0
    have h4 : usersL L f = 1 := by omega
    unfold inB at h3
    rw [decide_eq_true_iff] at h3
    rw [h0] at c1
    rw [h4] at c2
    obtain ⟨vs, vf, cap, ps, fr, hM, ok, rfl, rfl⟩ := h
    have hf : ¬ f < 0 := fun hf => h2 (by unfold usersL; rw [pgAt_neg _ hf]; rfl)
    obtain ⟨k, rfl⟩ : ∃ k : Nat, f = k := ⟨f.toNat, by omega⟩
    obtain ⟨o, rfl⟩ : ∃ o : Nat, b = o := ⟨b.toNat, by omega⟩
    have hg : pgAt (padP cap ps) k = ps.getD k Pg.none := by rw [pgAt_pad, pgAt_nat]
    have hlt : k < ps.length := by
      rcases Nat.lt_or_ge k ps.length with h | h
      · exact h
      · exfalso
        apply h2
        unfold usersL
        rw [hg, List.getD_eq_getElem?_getD, List.getElem?_eq_none h]; rfl
    obtain ⟨p, hp⟩ : ∃ p, ps[k]? = some p := ⟨_, List.getElem?_eq_getElem hlt⟩
    have hgp : pgAt (padP cap ps) k = p := by rw [hg]; simp [List.getD, hp]
    have hu : p.users = 1 := by unfold usersL at h4; rw [hgp] at h4; exact h4
    rw [hgp, h4, Int.toNat_natCast, Int.toNat_natCast]
    refine (write_mem hM ok k p hp hu o v bs hv (by omega) c1 c2).mono ?_
    rintro e w' ⟨rfl, hW, hT⟩
    exact ⟨rfl, ⟨_, _, cap, _, fr, hW, ok_set ok hp (by omega) (by simp), rfl, (padP_set _ hlt).symm⟩, hT⟩
  · obtain ⟨sp, c, rfl⟩ := hv.slice
    unfold writeL
    rw [if_neg hs]
    refine (write_no h f b sp bs.length c hs).mono ?_
    rintro e w' ⟨rfl, rfl⟩
    exact ⟨rfl, h, Turn.refl _ _⟩
end Go.Proofs.Ytgcjjgljllephaa
