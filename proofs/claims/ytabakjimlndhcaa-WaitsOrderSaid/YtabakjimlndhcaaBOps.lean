/-
  The small calls of waits, and drop: what they come to. Conditions: the waits lie in memory.
-/
import Derived.Test.YtabakjimlndhcaaBStep2
import Derived.Sort.LoopGhostIn
import Derived.BigRegion
import Derived.LaidEqlPtr
namespace Go.Proofs.Ytabakjimlndhcaa
open Go.ChangeShapes Go.WideShapes Go.ChangeAt Go.RowKit

theorem ret_ptr {a b : Nat} (h : a = b) : Ending.returned (.pointer (some ⟨a, 0, none⟩)) = .returned (.pointer (some ⟨b, 0, none⟩)) := by rw [h]
/-- Pointers at whole blocks are compared. -/
theorem eql_ptr {w : World} {tp te : TypeId} {j : TypeInfo} (hp : Try.prog.underlying tp = some (.pointer te)) (hte : Try.prog.info? te = some j) (hsz : j.size ≠ 0) {a b : Nat} {s t : TypeId} (ha : TBlk w a s) (hb : TBlk w b t) :
    (binOp .eql tp (.pointer (some ⟨a, 0, none⟩)) (.pointer (some ⟨b, 0, none⟩))).run Try.prog w = .ok (.bool (decide (a = b))) w := by
  by_cases h : a = b
  · subst h
    rw [run_eql_ptr_same w _ hp hte]
    simp
  · obtain ⟨ca, hca⟩ := ha
    obtain ⟨cb, hcb⟩ := hb
    have hne : (⟨a, 0, none⟩ : Addr) ≠ ⟨b, 0, none⟩ := by simp
    rw [run_eql_ptr_other w hp hte hsz hne hca hcb]
    simp [h]
theorem neq_ptr {w : World} {tp te : TypeId} {j : TypeInfo} (hp : Try.prog.underlying tp = some (.pointer te)) (hte : Try.prog.info? te = some j) (hsz : j.size ≠ 0) {a b : Nat} {s t : TypeId} (ha : TBlk w a s) (hb : TBlk w b t) :
    (binOp .neq tp (.pointer (some ⟨a, 0, none⟩)) (.pointer (some ⟨b, 0, none⟩))).run Try.prog w = .ok (.bool (decide (a ≠ b))) w := by
  by_cases h : a = b
  · subst h
    have h : ∀ d : Nat, (Op.equalIn (d + 1) tp (.pointer (some ⟨a, 0, none⟩)) (.pointer (some ⟨a, 0, none⟩))).run Try.prog w = .ok true w := fun d => by
      simp [Op.equalIn, run_underlying hp, Go.sizeOf, typeInfo, hte, run_sameAddr_same]
    simp only [binOp]
    simp [Op.equal, Op.maxDepth, h 9999]
  · obtain ⟨ca, hca⟩ := ha
    obtain ⟨cb, hcb⟩ := hb
    have hne : (⟨a, 0, none⟩ : Addr) ≠ ⟨b, 0, none⟩ := by simp
    have h1 : ∀ d : Nat, (Op.equalIn (d + 1) tp (.pointer (some ⟨a, 0, none⟩)) (.pointer (some ⟨b, 0, none⟩))).run Try.prog w = .ok false w := fun d => by
      simp [Op.equalIn, run_underlying hp, Go.sizeOf, typeInfo, hte, hsz, run_sameAddr_other w hne hca hcb]
    simp only [binOp]
    simp [Op.equal, Op.maxDepth, h1 9999, h]
theorem pplaceU : Try.prog.underlying 145 = some (.pointer 149) := by kernel_rfl
theorem pwaitU : Try.prog.underlying 102 = some (.pointer 106) := by kernel_rfl
theorem infoPl : (Try.prog.info? 149).map (fun i => i.size) = some 4 := by kernel_rfl
theorem infoWt : (Try.prog.info? 106).map (fun i => i.size) = some 4 := by kernel_rfl
theorem info_size {t : TypeId} {n : Nat} (h : (Try.prog.info? t).map (fun i => i.size) = some n) (hn : n ≠ 0) : ∃ j, Try.prog.info? t = some j ∧ j.size ≠ 0 := by
  cases hi : Try.prog.info? t with
  | none => rw [hi] at h; cases h
  | some j => rw [hi] at h; simp at h; exact ⟨j, rfl, by omega⟩
theorem eql_pl {w : World} {a b : Nat} {s t : TypeId} (ha : TBlk w a s) (hb : TBlk w b t) : (binOp .eql 145 (.pointer (some ⟨a, 0, none⟩)) (.pointer (some ⟨b, 0, none⟩))).run Try.prog w = .ok (.bool (decide (a = b))) w := by
  obtain ⟨j, h1, h2⟩ := info_size infoPl (by decide)
  exact eql_ptr pplaceU h1 h2 ha hb
theorem neq_pl {w : World} {a b : Nat} {s t : TypeId} (ha : TBlk w a s) (hb : TBlk w b t) : (binOp .neq 145 (.pointer (some ⟨a, 0, none⟩)) (.pointer (some ⟨b, 0, none⟩))).run Try.prog w = .ok (.bool (decide (a ≠ b))) w := by
  obtain ⟨j, h1, h2⟩ := info_size infoPl (by decide)
  exact neq_ptr pplaceU h1 h2 ha hb
theorem eql_wt {w : World} {a b : Nat} {s t : TypeId} (ha : TBlk w a s) (hb : TBlk w b t) : (binOp .eql 102 (.pointer (some ⟨a, 0, none⟩)) (.pointer (some ⟨b, 0, none⟩))).run Try.prog w = .ok (.bool (decide (a = b))) w := by
  obtain ⟨j, h1, h2⟩ := info_size infoWt (by decide)
  exact eql_ptr pwaitU h1 h2 ha hb
/-- No ring is of nobody. -/
def Tight (G : List Gw) (K : List Int) : Prop := ∀ n ∈ K, inL G n ≠ []
section
variable {w w' w1 : World} {c tm lm nT : Nat} {most : Int} {T : Int → Option Nat} {G A B : List Gw} {r : Int → Nat} {K : List Int} {g : Gw}
theorem GMem.drew (h : GMem w c most tm lm T nT G r K) : GMem w.drew c most tm lm T nT G r K := h.past (Turn.refl _ w).drew
theorem count_any (h : GMem w c most tm lm T nT G r K) : Calls Try.prog 27 #[.pointer (some ⟨c, 0, none⟩)] w fun x w' => x = .returned (.int .i64 (nT : Int)) ∧ w = w' := by
  have c1 := h.c1
  have hl := fun ty => h.tmap.len tmapU ty
  clear h
  go_enter Try.func27, Try.ntmps27
  go_wp2
  go_ret
  exact ⟨rfl, rfl⟩
theorem blocked_any (h : GMem w c most tm lm T nT G r K) (t : Int) (ht : fit t) : Calls Try.prog 28 #[.pointer (some ⟨c, 0, none⟩), .int .i64 t] w fun x w' => x = .returned (.bool (T t).isSome) ∧ w = w' := by
  have c1 := h.c1
  have hl := h.tmap.look tmapU zeroT t ht
  clear h
  cases hT : T t with
  | none =>
    rw [hT] at hl
    unfold ptrOf at hl
    clear hT
    go_enter Try.func28, Try.ntmps28
    go_wp2
    go_ret
    exact ⟨rfl, rfl⟩
  | some b =>
    rw [hT] at hl
    unfold ptrOf at hl
    clear hT
    go_enter Try.func28, Try.ntmps28
    go_wp2
    go_ret
    exact ⟨rfl, rfl⟩
theorem deadline_no (h : GMem w c most tm lm T nT G r K) (t : Int) (ht : fit t) (hT : T t = none) : Calls Try.prog 25 #[.pointer (some ⟨c, 0, none⟩), .int .i64 t] w fun x w' => x = .returned (.tuple #[.int .i64 0, .bool false]) ∧ w = w' := by
  have c1 := h.c1
  have hl := h.tmap.look2 tmapU zeroT t ht
  rw [hT] at hl
  unfold ptrOf at hl
  simp only [Option.isSome_none] at hl
  clear h hT
  go_enter Try.func25, Try.ntmps25
  go_wp2
  go_ret2
  exact ⟨rfl, rfl⟩
theorem deadline_yes (h : GMem w c most tm lm T nT G r K) (hg : g ∈ G) (ht : fit g.a.t) (hT : T g.a.t = some g.x) : Calls Try.prog 25 #[.pointer (some ⟨c, 0, none⟩), .int .i64 g.a.t] w fun x w' => x = .returned (.tuple #[.int .i64 g.a.d, .bool true]) ∧ w = w' := by
  have c1 := h.c1
  have x1 := (h.obj g hg).x1
  have hl := h.tmap.look2 tmapU zeroT g.a.t ht
  rw [hT] at hl
  unfold ptrOf at hl
  simp only [Option.isSome_some] at hl
  clear h hT
  go_enter Try.func25, Try.ntmps25
  go_wp2
  go_ret2
  exact ⟨rfl, rfl⟩
theorem new_no (most : Int) (w : World) (h : most < 0 ∨ 65536 < most) : Calls Try.prog 11 #[.int .i64 most] w fun x w' => x = .returned (.pointer none) ∧ w = w' := by
  rcases h with h | h
  · go_enter Try.func11, Try.ntmps11
    go_wp2
    go_ret
    exact ⟨rfl, rfl⟩
  · have h0 : ¬ most < 0 := by omega
    go_enter Try.func11, Try.ntmps11
    go_wp2
    go_ret
    exact ⟨rfl, rfl⟩
theorem new_yes (most : Int) (w : World) (h0 : 0 ≤ most) (h1 : most ≤ 65536) : Calls Try.prog 11 #[.int .i64 most] w fun x w' => ∃ c, x = .returned (.pointer (some ⟨c, 0, none⟩)) ∧ ∃ tm lm, GMem w' c most tm lm (fun _ => none) 0 [] (fun _ => 0) [] ∧ Turn NoBlock w w' ∧ w.heap.size ≤ c ∧ w.heap.size ≤ tm ∧ w.heap.size ≤ lm := by
  have h2 : ¬ most < 0 := by omega
  have h3 : ¬ 65536 < most := by omega
  have hmm := @run_makeMap Try.prog
  go_enter Try.func11, Try.ntmps11
  go_wp2
  go_ret
  have t1 : Turn NoBlock w (w.alloc (.map #[] 0)) := (Turn.refl _ w).alloc _
  have t2 : Turn NoBlock (w.alloc (.map #[] 0)) ((w.alloc (.map #[] 0)).alloc (.map #[] 0)) := (Turn.refl _ _).alloc _
  have t3 : Turn NoBlock ((w.alloc (.map #[] 0)).alloc (.map #[] 0)) (((w.alloc (.map #[] 0)).alloc (.map #[] 0)).alloc (.cells #[.int .i64 most, .map (some w.heap.size), .map (some (w.heap.size + 1))] 98)) := (Turn.refl _ _).alloc _
  have m1 := ((OMap.made w).past t2).past t3
  have m2 := (OMap.made (w.alloc (.map #[] 0))).past t3
  rw [show (w.alloc (.map #[] 0)).heap.size = w.heap.size + 1 by simp] at m2
  refine ⟨w.heap.size + 2, ret_ptr (by omega), w.heap.size, w.heap.size + 1, ⟨?_, m1, ?_, by omega, List.nodup_nil, fun n hn => absurd rfl hn, (fun g hg => by cases hg), (fun n hn => by cases hn), (fun n hn => by cases hn), List.nodup_nil, List.Pairwise.nil, (fun g hg => by cases hg)⟩, (t1.trans t2 (fun _ h => .inl h)).trans t3 (fun _ h => .inl h), by omega, by omega, by omega⟩
  · have := heap_alloc_new ((w.alloc (.map #[] 0)).alloc (.map #[] 0)) (.cells #[.int .i64 most, .map (some w.heap.size), .map (some (w.heap.size + 1))] 98)
    simpa using this
  · have e : LK (fun _ => 0) [] = fun _ => none := by funext m; unfold LK; simp
    rw [e]
    exact m2
theorem newroot_any (w : World) : Calls Try.prog 81 #[] w fun x w' => x = .returned (.pointer (some ⟨w.heap.size, 0, none⟩)) ∧ RtM w' w.heap.size [] ∧ Turn NoBlock w w' ∧ w.heap.size < w'.heap.size := by
  go_enter Try.func81, Try.ntmps81
  go_wp2
  go_ret
  have h1 := heap_alloc_new w (.cells #[.int .i64 0, .pointer none, .pointer (some ⟨w.heap.size, 0, none⟩), .pointer (some ⟨w.heap.size, 0, none⟩)] 149)
  refine ⟨rfl, ⟨⟨_, h1⟩, cell_at h1 1, ?_, ?_⟩, (Turn.refl _ w).alloc _, lt_of_block h1⟩
  · exact cell_at h1 3
  · exact cell_at h1 2
end
end Go.Proofs.Ytabakjimlndhcaa
