/-
  The calls of VmoSizes. No conditions but that the set is one that calls can make.
-/
import Derived.Test.YtdhbhigoboamfaaVSizesM
namespace Go.Proofs.Ytdhbhigoboamfaa
open Go.ChangeShapes Go.WideShapes Go.ChangeAt Go.RowKit

theorem setM_at (M : Mod) (i : Int) (o : Ob) (S : PL) : (setM M i o S).O i = some { o with pgs := S.g, cnt := S.c } := by
  show updI M.O i _ i = _
  rw [updI_same]
/-- One object, its size, and what stands in it. -/
structure Sz (M : Mod) (U : Nat) (C : Nat → UInt8) (o : Ob) : Prop where
  at1 : M.O 1 = some o
  size : o.size = U
  drp : o.drp = false
  dep : o.depth = 0
  slc : o.slc = 0
  inv : Inv8 M
  made : M.made = 1
  cnt : o.cnt ≤ 1152921504606846976
  flat : ∀ x, fl M.L o.pgs x = C x
def Z0 (U : Nat) : Mod := ⟨2, 1, 1, updI (fun _ => none) 1 (some (newOb U 0 0 0)), List.replicate 100 Pg.none⟩
theorem fam_none {U : Nat} (k : Key) : famOf (Z0 U).O k = none := by
  unfold famOf Z0 updI
  simp only
  by_cases e : k.1 = 1
  · rw [if_pos e]; rfl
  · rw [if_neg e]
theorem z0_sz (U : Nat) (hU : U ≤ 4294967296) : Sz (Z0 U) U (fun _ => 0) (newOb U 0 0 0) := by
  have hc : Chain (Z0 U).O := chain_one (n := 0) (m := 0) (o := newOb U 0 0 0) rfl hU (Nat.zero_le _)
  refine ⟨rfl, rfl, rfl, rfl, rfl, ⟨(Good.start 100).congr fam_none, hc, few_start 100⟩, rfl, Nat.zero_le _, fun x => ?_⟩
  unfold fl
  show (cont _ none).getD _ 0 = 0
  rw [cont_none]
  unfold blank
  rw [List.getD_eq_getElem?_getD, List.getElem?_replicate, if_pos (Nat.mod_lt _ (by decide))]
  rfl
section
variable {w : World} {s : Nat} {r : Rep} {M : Mod} {U : Nat} {C : Nat → UInt8} {o : Ob}
theorem sz_create (h : SMem w s r (M0 100 2)) (n : Int) (h0 : 0 ≤ n) (h1 : n ≤ 4294967296) : Calls Try.prog 16 #[.pointer (some ⟨s, 0, none⟩), .int .i64 n] w fun e w' => e = .returned (.tuple #[.int .i64 1, .int .i64 0]) ∧ ∃ r', SMem w' s r' (Z0 (upS n)) ∧ VNext w s r w' r' := by
  have hs : createS (M0 100 2) n = 0 := by
    unfold createS
    rw [if_neg (by omega), if_neg (by omega)]
    rfl
  exact create_yes h n hs (by decide) (by decide)
theorem sz_info (h : SMem w s r (Z0 U)) : Calls Try.prog 25 #[.pointer (some ⟨s, 0, none⟩), .int .i64 1] w fun e w' => e = .returned (.tuple #[.agg #[.int .i64 (U : Int), .int .i64 0, .int .i64 0, .int .i64 0, .bool false, .bool false], .bool true]) ∧ Turn NoBlock w w' :=
  info_yes h 1 (by unfold fit; omega) (o := newOb U 0 0 0) rfl
theorem sz_write (h : SMem w s r M) (z : Sz M U C o) (v : Value) (bs : List UInt8) (hv : SrcF w s r v bs) (hl : bs.length ≤ 200) (hU : bs.length ≤ U) (hr : 10 ≤ roomN M.L) (hc0 : o.cnt ≤ 1000) :
    Calls Try.prog 17 #[.pointer (some ⟨s, 0, none⟩), .int .i64 1, .int .i64 0, v] w fun e w' => e = .returned (.int .i64 0) ∧ ∃ r' M' o', (SMem w' s r' M' ∧ Sz M' U (fun x => if x < bs.length then bs.getD x 0 else C x) o') ∧ VNext w s r w' r' := by
  have hp := parts_cnt 0 bs.length
  have hlk : (lackN ⟨M.L, o.pgs, o.cnt⟩ (partsL 0 bs.length) : Int) ≤ roomN M.L := by
    have := lackN_le ⟨M.L, o.pgs, o.cnt⟩ (partsL 0 bs.length)
    omega
  have W := write_inv z.inv z.at1 z.dep (full_pool h.pool) 0 bs hlk
  have c := write8_ok h z.inv.chain (by rw [z.made]; decide) (i := 1) (by unfold fit; omega) z.at1 z.drp 0 v bs hv (by omega) (by rw [z.size]; omega) (j := 1) (q := o) (t' := 0) (by rw [z.dep]; rfl) z.at1 (by decide) z.inv.few z.cnt hlk
  refine Calls.mono c ?_
  rintro e w' ⟨rfl, r', m, k⟩
  refine ⟨rfl, r', wrM M 1 o 0 bs, wrO M o 0 bs, ⟨m, ?_, z.size, z.drp, z.dep, z.slc, W.inv, z.made, ?_, fun x => ?_⟩, k⟩
  · rw [W.obj, updI_same]
  · refine Nat.le_trans W.cnt ?_
    omega
  · rw [W.flat, z.flat]
    by_cases hx : x < bs.length
    · rw [if_pos ⟨Nat.zero_le _, by omega⟩, if_pos hx]; rfl
    · rw [if_neg (by omega), if_neg hx]
theorem sz_resize (h : SMem w s r M) (z : Sz M U C o) (n : Int) (h0 : 0 ≤ n) (h1 : n ≤ 4294967296) :
    Calls Try.prog 28 #[.pointer (some ⟨s, 0, none⟩), .int .i64 1, .int .i64 n] w fun e w' => e = .returned (.int .i64 0) ∧ ∃ r' M' o', (SMem w' s r' M' ∧ Sz M' (upS n) (fun x => if x < upS n then C x else 0) o') ∧ VNext w s r w' r' := by
  have hU : upS n ≤ 4294967296 := by unfold upS; omega
  refine (resize_yes h 1 n (by unfold fit; omega) z.at1 z.drp h0 h1 z.dep z.slc z.inv.few).mono ?_
  rintro e w' ⟨rfl, r', S', ks, g1, g2, g3, g4, g5, m, k, hf⟩
  obtain ⟨i1, i2, i3⟩ := resize_inv z.inv (full_pool h.pool) z.at1 z.dep hU (up_mod n) g1 g2 g4 g5 hf
  refine ⟨rfl, r', setM M 1 { o with size := upS n } S', { o with size := upS n, pgs := S'.g, cnt := S'.c }, ⟨m, setM_at _ _ _ _, rfl, z.drp, z.dep, z.slc, i1, z.made, ?_, fun x => ?_⟩, k⟩
  · show S'.c ≤ _
    have : ∀ (ks : List Int) (S : PL), (ks.foldl rel1 S).c ≤ S.c := by
      intro ks
      induction ks with
      | nil => intro S; exact Nat.le_refl _
      | cons k ks ih =>
        intro S
        refine Nat.le_trans (ih (rel1 S k)) ?_
        unfold rel1
        split
        · exact Nat.le_refl _
        · exact Nat.sub_le _ _
    rw [g1]
    exact Nat.le_trans (this ks _) z.cnt
  · show fl S'.L S'.g x = _
    rw [i3, z.flat]
theorem sz_resize_neg (h : SMem w s r M) (z : Sz M U C o) (n : Int) (hn : n < 0) :
    Calls Try.prog 28 #[.pointer (some ⟨s, 0, none⟩), .int .i64 1, .int .i64 n] w fun e w' => e = .returned (.int .i64 (-10)) ∧ w = w' := by
  have hs : resizeS M 1 n = -10 := by
    unfold resizeS
    rw [if_neg (fun e => e (find_of z.at1 z.drp)), if_pos hn]
  have c := resize_no h 1 n (by unfold fit; omega) (by rw [hs]; decide)
  rwa [hs] at c
theorem sz_resize_far (h : SMem w s r M) (z : Sz M U C o) (n : Int) (hn : 4294967296 < n) :
    Calls Try.prog 28 #[.pointer (some ⟨s, 0, none⟩), .int .i64 1, .int .i64 n] w fun e w' => e = .returned (.int .i64 (-14)) ∧ w = w' := by
  have hs : resizeS M 1 n = -14 := by
    unfold resizeS
    rw [if_neg (fun e => e (find_of z.at1 z.drp)), if_neg (by omega), if_pos hn]
  have c := resize_no h 1 n (by unfold fit; omega) (by rw [hs]; decide)
  rwa [hs] at c
theorem sz_create_neg (h : SMem w s r (M0 100 2)) (n : Int) (hn : n < 0) : Calls Try.prog 16 #[.pointer (some ⟨s, 0, none⟩), .int .i64 n] w fun e w' => e = .returned (.tuple #[.int .i64 0, .int .i64 (-10)]) ∧ SMem w' s r (M0 100 2) ∧ Turn NoBlock w w' := by
  have hs : createS (M0 100 2) n = -10 := by unfold createS; rw [if_pos hn]
  have c := create_no h n (by rw [hs]; decide)
  rwa [hs] at c
theorem sz_create_far (h : SMem w s r (M0 100 2)) (n : Int) (hn : 4294967296 < n) : Calls Try.prog 16 #[.pointer (some ⟨s, 0, none⟩), .int .i64 n] w fun e w' => e = .returned (.tuple #[.int .i64 0, .int .i64 (-14)]) ∧ SMem w' s r (M0 100 2) ∧ Turn NoBlock w w' := by
  have hs : createS (M0 100 2) n = -14 := by unfold createS; rw [if_neg (by omega), if_pos hn]
  have c := create_no h n (by rw [hs]; decide)
  rwa [hs] at c
theorem sz_read (h : SMem w s r M) (z : Sz M U C o) (t n : Nat) (hn : n ≤ 4096) (htn : t + n ≤ U) (hU : U ≤ 4294967296) :
    Calls Try.prog 18 #[.pointer (some ⟨s, 0, none⟩), .int .i64 1, .int .i64 t, .int .i64 n] w fun e w' => ∃ u, e = .returned (.tuple #[u, .int .i64 0]) ∧ Byts u ((List.range n).map fun j => C (t + j)) w' ∧ Turn NoBlock w w' := by
  have c := read8_ok h z.inv.chain z.inv.held (by rw [z.made]; decide) (i := 1) (by unfold fit; omega) z.at1 z.drp t n hn (by rw [z.size]; exact htn) (j := 1) (q := o) (t' := t) (by rw [z.dep]; rfl) z.at1 (by omega)
  refine Calls.mono c ?_
  rintro e w' ⟨u, rfl, hB, hf, tt⟩
  refine ⟨u, rfl, ?_, tt⟩
  rw [read_flat (S := ⟨M.L, o.pgs, o.cnt⟩) (full_pool h.pool)] at hB
  rwa [show ((List.range n).map fun j => C (t + j)) = (List.range n).map fun j => fl M.L o.pgs (t + j) from List.map_congr_left (fun j _ => (z.flat _).symm)]
end
theorem arg_cut {W : World} {v : Value} {bs : List UInt8} (h : ArgB W v bs) (n : Nat) (hn : n ≤ bs.length) :
    ∃ u, (∀ w, Sem.run Try.prog (Instr.slice 22 v none (some (.int .i64 (n : Int))) none) w = .ok u w) ∧ ∀ w, Turn NoBlock W w → Src w u (bs.take n) := by
  have ht : Try.prog.underlying 22 = some (.slice (Try.prog.elem 22)) := by kernel_rfl
  have hsz : ∀ w, (sizeOf (Try.prog.elem 22)).run Try.prog w = .ok 1 w := fun w => by kernel_rfl
  rcases h with ⟨p, c, rfl, rfl⟩ | ⟨b, off, c, rfl, hc, h0, hcell⟩
  · simp at hn
    subst hn
    refine ⟨sliced p 0 0 c 1, fun w => ?_, fun w _ => .inl ⟨?_, rfl⟩⟩
    · have := run_slice_h (P := Try.prog) w 22 p 0 c ht .i64 ((0 : Nat) : Int) (by omega) (by omega)
      rw [hsz] at this
      simpa only [Result.andThen, Int.toNat_natCast] using this
    · unfold sliced
      split <;> exact ⟨_, _, rfl⟩
  · refine ⟨.slice (some ⟨b, off, none⟩) n c, fun w => ?_, fun w t => .inr ⟨b, off, c, ?_, fun j hj => ?_⟩⟩
    · have := run_slice_h (P := Try.prog) w 22 (some ⟨b, off, none⟩) bs.length c ht .i64 (n : Int) (by omega) (by omega)
      rw [hsz] at this
      simp only [Result.andThen, Int.toNat_natCast] at this
      rw [this]
      simp [sliced, Addr.add]
    · rw [List.length_take, Nat.min_eq_left hn]
    · rw [List.length_take] at hj
      rw [t.cell (hcell j (by omega)) (fun h => h)]
      simp [List.getD, show j < n by omega]
end Go.Proofs.Ytdhbhigoboamfaa
