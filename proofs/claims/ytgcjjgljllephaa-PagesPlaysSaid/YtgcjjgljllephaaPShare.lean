/-
  What Share and Used of a pool answer, what Share makes of its frames; whether two slices hold the same bytes. No conditions but that the pool is one that calls can make, and no frame has too many users.
-/
import Derived.Test.YtgcjjgljllephaaPRead
import Derived.Laws.BytesArg
import Derived.Laws.IdiomStrings
namespace Go.Proofs.Ytgcjjgljllephaa
open Go.ChangeShapes Go.WideShapes Go.ChangeAt Go.RowKit

def shareS (L : List Pg) (f : Int) : Int := if usersL L f = 0 then -25 else 0
def shareL (L : List Pg) (f : Int) : List Pg := if usersL L f = 0 then L else L.set f.toNat ⟨usersL L f + 1, (pgAt L f).bytes⟩

section
variable {w : World} {a cap : Nat} {vs vf : Value} {ps : List Pg} {fr : List Nat}
theorem used_frame {cap : Nat} {ps : List Pg} {f : Int} (h2 : usersL (padP cap ps) f ≠ 0) : ∃ (k : Nat) (p : Pg), f = k ∧ ps[k]? = some p ∧ pgAt (padP cap ps) f = p ∧ p.users ≠ 0 := by
  have hf : ¬ f < 0 := fun hf => h2 (by unfold usersL; rw [pgAt_neg _ hf]; rfl)
  obtain ⟨k, rfl⟩ : ∃ k : Nat, f = k := ⟨f.toNat, by omega⟩
  have hg : pgAt (padP cap ps) k = ps.getD k Pg.none := by rw [pgAt_pad, pgAt_nat]
  have hlt : k < ps.length := by
    rcases Nat.lt_or_ge k ps.length with h | h
    · exact h
    · exfalso
      apply h2
      unfold usersL
      rw [hg, List.getD_eq_getElem?_getD, List.getElem?_eq_none h]; rfl
  obtain ⟨p, hp⟩ : ∃ p, ps[k]? = some p := ⟨_, List.getElem?_eq_getElem hlt⟩
  have hgp : pgAt (padP cap ps) k = p := by rw [hg]; simp [List.getD, hp]
  exact ⟨k, p, rfl, hp, hgp, by unfold usersL at h2; rw [hgp] at h2; exact h2⟩

theorem share_any {F : Nat → Prop} {L : List Pg} (h : PoolAt w a F L) (f : Int) (hm : usersL L f < 4611686018427387904) :
    Calls Try.prog 17 #[.pointer (some ⟨a, 0, none⟩), .int .i64 f] w fun e w' => e = .returned (.int .i64 (shareS L f)) ∧ PoolAt w' a F (shareL L f) ∧ Turn F w w' := by
  have c1 := users_any h f
  unfold shareS shareL
  by_cases h0 : usersL L f = 0
  · rw [if_pos h0, if_pos h0]
    rw [h0] at c1
    have HP := Lib.hid h
    clear h h0
    go_enter Try.func17, Try.ntmps17
    go_wp2_with (go_at_call 27; (with_reducible refine c1.mono ?_); rintro e w' ⟨rfl, rfl⟩)
    go_ret
    exact ⟨rfl, HP.out, Turn.refl _ _⟩
  · rw [if_neg h0, if_neg h0]
    obtain ⟨vs, vf, cap, ps, fr, hM, ok, rfl, rfl⟩ := h
    obtain ⟨k, p, rfl, hp, hgp, hu⟩ := used_frame h0
    have hub : usersL (padP cap ps) k = p.users := by unfold usersL; rw [hgp]
    rw [hgp, hub, Int.toNat_natCast]
    rw [hub] at c1 hm
    have hlt := (List.getElem?_eq_some_iff.1 hp).1
    have hlen : ps.length ≤ 65536 := by have := ok.len; have := ok.top; omega
    obtain ⟨g, c, rfl, g1, g2, g3, g4, g5, g6, -, -, -, g10⟩ := hM.page hp
    have d1 := hM.c1
    have HM := Lib.hid (And.intro (hM.put (o := 0) (cs := [.int .i64 ((p.users + 1 : Nat) : Int)]) ⟨p.users + 1, p.bytes⟩ hp (hM.sized k p hp) (by simp) (put_users p (p.users + 1))) (And.intro (ok_set ok hp hu (q := ⟨p.users + 1, p.bytes⟩) (by simp)) (padP_set (cap := cap) ⟨p.users + 1, p.bytes⟩ hlt)))
    have hb : (((p.users : Nat) : Int) == 0) = false := by simp; omega
    have he : ((p.users + 1 : Nat) : Int) = (p.users : Int) + 1 := by omega
    rw [he] at HM
    generalize p.users = u at *
    generalize ps.length = N at *
    clear h0 hgp hub hp hM ok hu he
    go_enter Try.func17, Try.ntmps17
    go_wp2_with (go_at_call 27; (with_reducible refine c1.mono ?_); rintro e w' ⟨rfl, rfl⟩)
    go_ret
    exact ⟨rfl, ⟨_, _, cap, _, fr, HM.out.1.1, HM.out.2.1, rfl, HM.out.2.2.symm⟩, HM.out.1.2.mono (fun j hj => .inl (by subst hj; exact .inr (.inl rfl)))⟩

/-- How many frames are used. -/
def usedN (L : List Pg) : Nat := (L.filter (fun p => p.users != 0)).length
theorem used_pad (cap : Nat) (ps : List Pg) : usedN (padP cap ps) = usedN ps := by
  unfold usedN padP
  rw [List.filter_append, List.length_append]
  have : (List.replicate (cap - ps.length) Pg.none).filter (fun p => p.users != 0) = [] := by
    rw [List.filter_eq_nil_iff]
    intro p hp
    rw [List.mem_replicate] at hp
    rw [hp.2]
    simp [Pg.none]
  rw [this]; rfl
theorem range_map (ps : List Pg) : (List.range ps.length).map (fun k => ps.getD k Pg.none) = ps := by
  apply List.ext_getElem
  · simp
  · intro i h1 h2
    simp [List.getD, List.getElem?_eq_getElem h2]
theorem free_count (ps : List Pg) (fr : List Nat) (h : ∀ k, k ∈ fr ↔ ∃ p, ps[k]? = some p ∧ p.users = 0) (hn : fr.Nodup) : fr.length + usedN ps = ps.length := by
  have hp : fr.Perm ((List.range ps.length).filter (fun k => !((ps.getD k Pg.none).users != 0))) := by
    rw [List.perm_ext_iff_of_nodup hn ((List.nodup_range).filter _)]
    intro k
    rw [h k, List.mem_filter, List.mem_range]
    constructor
    · rintro ⟨p, hp, h0⟩
      refine ⟨(List.getElem?_eq_some_iff.1 hp).1, ?_⟩
      simp only [List.getD, hp, Option.getD_some]
      simp [h0]
    · rintro ⟨hk, h0⟩
      refine ⟨ps[k], List.getElem?_eq_getElem hk, ?_⟩
      simp only [List.getD, List.getElem?_eq_getElem hk, Option.getD_some] at h0
      simpa using h0
  have h1 : ((List.range ps.length).filter (fun k => !((ps.getD k Pg.none).users != 0))).length = (ps.filter (fun p => !(p.users != 0))).length := by
    conv => rhs; rw [← range_map ps]
    rw [List.filter_map, List.length_map]
    rfl
  rw [hp.length_eq, h1]
  unfold usedN
  have h2 := List.length_eq_countP_add_countP (fun p : Pg => p.users != 0) (l := ps)
  rw [← List.countP_eq_length_filter, ← List.countP_eq_length_filter]
  have h3 : List.countP (fun p : Pg => !(p.users != 0)) ps = List.countP (fun a : Pg => decide ¬(a.users != 0) = true) ps := by
    congr 1
    funext p
    cases (p.users != 0) <;> rfl
  omega
theorem used_any {F : Nat → Prop} {L : List Pg} (h : PoolAt w a F L) :
    Calls Try.prog 28 #[.pointer (some ⟨a, 0, none⟩)] w fun e w' => e = .returned (.int .i64 (usedN L)) ∧ ∃ m, w' = w.drewN m := by
  obtain ⟨vs, vf, cap, ps, fr, hM, ok, rfl, rfl⟩ := h
  rw [used_pad]
  have hc := free_count ps fr ok.free ok.once
  obtain ⟨p, c, rfl⟩ := own_slice hM.frames
  obtain ⟨p', c', rfl⟩ := own_slice hM.freed
  have d1 := hM.c1
  have d2 := hM.c2
  have hlen : ps.length ≤ 65536 := by have := ok.len; have := ok.top; omega
  have hs : (ps.length : Int) - (fr.length : Int) = (usedN ps : Int) := by omega
  have HW := Lib.hid hs
  have hle : (fr.length : Int) ≤ (ps.length : Int) := by omega
  generalize usedN ps = u at *
  generalize ps.length = n at *
  generalize fr.length = m at *
  clear hM ok hs hc
  go_enter Try.func28, Try.ntmps28
  go_wp2
  go_quiet (fail)
  go_wp2
  go_ret
  exact ⟨ret_int HW.out, _, rfl⟩
end

theorem conv_bytes {w : World} {v : Value} {bs : List UInt8} (h : Src w v bs) : (convert 31 9 v).run Try.prog w = .ok (.string ⟨bs.toArray⟩) w := by
  have h5 : Try.prog.underlying 5 = some (.int .u8) := by kernel_rfl
  have h9 : Try.prog.underlying 9 = some .string := by kernel_rfl
  rcases h with ⟨⟨p, c, rfl⟩, rfl⟩ | ⟨g, off, c, rfl, hc⟩
  · cases p with
    | none => exact run_convert_bytes_nil w 31 5 bytes31 h5 0 c 9 h9
    | some a => exact run_convert_bytes_back w 31 9 5 a c [] bytes31 h5 h9 (fun j hj => absurd hj (Nat.not_lt_zero _))
  · refine run_convert_bytes_back w 31 9 5 ⟨g, off, none⟩ c bs bytes31 h5 h9 (fun j hj => ?_)
    rw [Addr.add_mid, hc j hj]
    simp [List.getD, List.getElem?_eq_getElem hj]
theorem same_any (w : World) (va vb : Value) (bs : List UInt8) (ha : Src w va bs) (hb : Src w vb bs) :
    Calls Try.prog 23 #[va, vb] w fun e w' => e = .returned (.bool true) ∧ w = w' := by
  have c1 := conv_bytes ha
  have c2 := conv_bytes hb
  clear ha hb
  go_enter Try.func23, Try.ntmps23
  go_wp2
  go_ret
  exact ⟨rfl, rfl⟩
end Go.Proofs.Ytgcjjgljllephaa
