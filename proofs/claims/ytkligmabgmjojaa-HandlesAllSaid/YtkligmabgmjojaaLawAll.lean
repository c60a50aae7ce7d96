/-
  The statement HandlesAll answers true at every number and list.
-/
import Derived.Test.YtkligmabgmjojaaHAllSt
import Derived.Test.YtkligmabgmjojaaHAwake
import Derived.Test.YtkligmabgmjojaaHOps
import Derived.Deep.LoopGhost
namespace Go.Proofs.Ytkligmabgmjojaa
open Go.ChangeShapes Go.WideShapes Go.ChangeAt Go.RowKit

set_option maxRecDepth 20000 in
set_option maxHeartbeats 4000000 in
theorem all_past (n : Int) (p : Option Addr) (len cap : Nat) (w : World) (h : n < 0 ∨ (0 ≤ n ∧ 60 < n) ∨ (0 ≤ n ∧ n ≤ 60 ∧ 60 < len)) :
    Calls Try.prog 6 #[.int .i64 n, .slice p len cap] w fun e w' => e = .returned (.bool true) ∧ Turn NoBlock w w' := by
  have c1 : ∀ w, Calls Try.prog 9 #[.int .i64 64] w _ := fun w => new_raw 64 w (by omega)
  have cA := Lib.hid (fun w' => @awake_b w w')
  rcases h with h | ⟨h, h'⟩ | ⟨h, h', h''⟩
  all_goals
    go_enter Try.func6, Try.ntmps6
    go_wp2_with (first
      | (go_at_call 9; (with_reducible refine (c1 _).mono ?_); rintro x w1 ⟨rfl, rfl⟩)
      | (go_at_call 10; (with_reducible refine (cA.out _ (((Turn.refl NoBlock w).alloc _).alloc _)).mono ?_); rintro x w5 ⟨rfl, t8⟩))
    go_ret
    exact ⟨rfl, t8⟩

theorem al_add {w : World} {a : Nat} {F : Nat → Prop} {i : Nat} (hi : i < 64) (h : TableAt w a F (rngL 64 i allF)) :
    Calls Try.prog 22 #[.pointer (some ⟨a, 0, none⟩), .agg #[.int .i64 i, .int .i64 0, .int .i64 0], .int .i64 ((i : Int) * i)] w fun x w' => x = .returned (.tuple #[.int .i64 (valS i ((i : Int) * i)), .int .i64 0]) ∧
      ∃ F', TableAt w' a F' (rngL 64 (i + 1) allF) ∧ Turn F w w' ∧ ∀ j, F' j → F j ∨ w.heap.size ≤ j := by
  obtain ⟨h1, h2, h3⟩ := rng_add (cap := 64) (n := i) (f := allF) (e := ⟨i, 0, 0⟩) (d := (i : Int) * i) allF_ne hi rfl
  have := add_any h ⟨i, 0, 0⟩ ((i : Int) * i)
  rw [h1, h2, h3] at this
  exact this

theorem ASt.made {w wr : World} {A B : Nat} {Fa Fb : Nat → Prop} {La Lb : List Pl} {n : Nat} (hn : n ≤ 60) (h : ASt w wr A B Fa Fb La Lb (.slice none 0 0) [] (.slice none 0 0) []) :
    ASt w (wr.alloc (.cells (madeCells #[Value.int .i64 0] n) 3)) A B Fa Fb La Lb (.slice none 0 0) [] (.slice (some ⟨wr.heap.size, 0, none⟩) n n) (cntL n []) := by
  refine ⟨h.st.step3 (pair_own _ _ _ _) ⟨ints_nil _, made_ints wr n hn⟩ ((Turn.refl _ wr).alloc _) (fun j hj => .inr ?_), fun j hj => (blk_nil j hj).elim⟩
  rcases hj with hj | hj
  · exact (blk_nil j hj).elim
  · simp [Blk, Value.ownBlock] at hj; omega
/-- One count more. -/
theorem cnt_set {W : World} {g n k : Nat} {cs : List Int} {x : Int} (h : Ints (.slice (some ⟨g, 0, none⟩) n n) cs W) :
    Ints (.slice (some ⟨g, 0, none⟩) n n) (cs.set k x) (W.setCell ⟨g, k, none⟩ (.int .i64 x)) ∧ Turn (Blk (.slice (some ⟨g, 0, none⟩) n n)) W (W.setCell ⟨g, k, none⟩ (.int .i64 x)) := by
  refine ⟨?_, (Turn.refl (Blk (.slice (some ⟨g, 0, none⟩) n n)) W).setCell (p := ⟨g, k, none⟩) (.inl rfl) _⟩
  unfold Ints at *
  obtain ⟨p', c', he⟩ := own_slice h
  simp only [Value.slice.injEq] at he
  rw [List.length_set]
  rw [← he.2.1] at h ⊢
  have := (h.stored k (.int .i64 x)).1
  rw [← List.map_set] at this
  exact this

set_option maxRecDepth 20000 in
set_option maxHeartbeats 8000000 in
theorem all_walk (n : Nat) (p : Option Addr) (len cap : Nat) (zs : List Int) (hn : n ≤ 60) (hl : len ≤ 60) (w : World) (hz : NumsAt w p len zs) :
    Calls Try.prog 6 #[.int .i64 n, .slice p len cap] w fun e w' => e = .returned (.bool true) ∧ Turn NoBlock w w' := by
  obtain ⟨i0, hi, hz0, hz1, hz2⟩ := info_parts info3
  have mk := fun (w : World) => run_make (P := Try.prog) w 27 3 i0 _ ints27' hi hz0 .i64 .i64 (n : Int) n (by omega) (by omega) (by rw [hz2]; omega) (by omega)
  rw [hz1] at mk
  simp only [Int.toNat_natCast, Nat.mul_one, Value.cells] at mk
  have c1 : ∀ w, Calls Try.prog 9 #[.int .i64 64] w _ := fun w => new_raw 64 w (by omega)
  have cA := Lib.hid (fun w' => @awake_b w w')
  obtain ⟨Fa0, Fb0, S0⟩ := all_start w
  have HS0 := Lib.hid S0
  have HZ := Lib.hid hz
  clear S0 hz
  go_enter Try.func6, Try.ntmps6
  go_wp2_with (go_at_call 9; (with_reducible refine (c1 _).mono ?_); rintro x w1 ⟨rfl, rfl⟩)
  clear c1
  go_loopg [51] n (fun g s wr => ∃ (i : Nat) (Fa Fb : Nat → Prop), g = n - i ∧ i ≤ n ∧ s = .int .i64 i ∧ Hid (ASt w wr w.heap.size (w.heap.size + 1) Fa Fb (rngL 64 i allF) (rngL 64 i allF) (.slice none 0 0) [] (.slice none 0 0) []))
  case atStart => exact ⟨0, Fa0, Fb0, by omega, by omega, rfl, HS0.out⟩
  case round =>
    obtain ⟨i, Fa, Fb, hg, hi', rfl, HR⟩ := hrel
    by_cases hlt : i < n
    · as_aux_lemma =>
      have q1 : (i : Int) * i ≤ 3600 := by have : i * i ≤ 60 * 60 := Nat.mul_le_mul (by omega) (by omega); omega
      have q2 : 0 ≤ (i : Int) * i := by have : 0 ≤ i * i := Nat.zero_le _; omega
      have d1 := al_add (by omega) HR.out.st.n1
      go_wp2_with (first
        | (go_at_call 22; (with_reducible refine d1.mono ?_); rintro x w2 ⟨rfl, F2, h2, t2, l2⟩; have K2 := Lib.hid (ASt.stepA HR.out t2 h2 l2); clear h2 t2 l2)
        | (go_at_call 22; (with_reducible refine (al_add (by omega) K2.out.st.n2).mono ?_); rintro x w3 ⟨rfl, F3', h3, t3, l3⟩; have K3 := Lib.hid (ASt.stepB K2.out t3 h3 l3); clear h3 t3 l3))
      go_roundg (n - (i + 1))
      case measure => omega
      case rel => exact ⟨i + 1, F2, F3', rfl, by omega, by go_num, K3.out⟩
    · obtain rfl : i = n := by omega
      clear hg hlt
      have HC := Lib.hid (ASt.made hn HR.out)
      go_wp2
      obtain ⟨cb, hcb⟩ : ∃ cb, wr.heap.size = cb := ⟨_, rfl⟩
      rw [hcb] at HC ⊢
      clear hcb mk HR
      go_loopg [8, 10, 73] len (fun g s8 s10 s73 wy => ∃ (j : Nat), g = len - j ∧ j ≤ len ∧ s10 = .bool (wholeB i (zs.take j)) ∧ s73 = .int .i64 j ∧
        Hid (ASt w wy w.heap.size (w.heap.size + 1) Fa Fb (rngL 64 i allF) (rngL 64 i allF) s8 ((zs.take j).map (allG i)) (.slice (some ⟨cb, 0, none⟩) i i) (cntL i (zs.take j)) ∧ AllOK i (zs.take j)))
      case atStart => exact ⟨0, by omega, by omega, rfl, rfl, HC.out, by intro z hz; simp at hz⟩
      case round =>
        obtain ⟨j, hgj, hj, rfl, rfl, HR⟩ := hrel
        by_cases hlt : j < len
        · obtain ⟨b, off, rfl, hc⟩ := HZ.out.2.2 (by omega)
          have ck := HR.out.1.st.cell (hc j hlt)
          have hjz : j < zs.length := by rw [HZ.out.1]; exact hlt
          have ht := take_one' hjz
          have hfx : fit (zs.getD j 0) := HZ.out.2.1 _ (by simp only [List.getD, List.getElem?_eq_getElem hjz, Option.getD_some]; exact List.getElem_mem hjz)
          have hpre : (zs.take j).length = j := by rw [List.length_take]; omega
          have HT := Lib.hid ht
          generalize zs.getD j 0 = x at *
          obtain ⟨pre, hpr⟩ : ∃ pre, zs.take j = pre := ⟨_, rfl⟩
          rw [hpr] at HR hpre HT ⊢
          have hxl : (pre.map (allG i)).length = j := by rw [List.length_map]; exact hpre
          obtain ⟨pv, cv, rfl⟩ := ints_slice HR.out.1.st.n3.1
          rw [hxl] at HR ⊢
          have HNV := Lib.hid hxl
          have HG := Lib.hid (fun z => (List.map_append (f := allG i) (l₁ := pre) (l₂ := [z])))
          have hcp := count_le pre x
          clear hc ht hjz hpr hxl
          by_cases hin : 0 ≤ x ∧ x < i
          · obtain ⟨k, rfl⟩ : ∃ k : Nat, x = k := ⟨x.toNat, by omega⟩
            have hk : k < i := by omega
            have q1 : (k : Int) * k ≤ 3600 := by have : k * k ≤ 60 * 60 := Nat.mul_le_mul (by omega) (by omega); omega
            have q2 : 0 ≤ (k : Int) * k := by have : 0 ≤ k * k := Nat.zero_le _; omega
            have cV := Lib.hid (fun w => value_yes k ((k : Int) * k) w (by omega))
            have m1 := ints_cell HR.out.1.st.n3.2 k (by rw [cntL_len]; exact hk)
            rw [cntL_at hk] at m1
            have m3 : wr.frozen? ⟨cb, k, none⟩ = false := by have h1 := HR.out.1.st.n3.2; unfold Ints at h1; rw [cntL_len] at h1; exact h1.frozenAt k
            obtain ⟨cn, hcn⟩ : ∃ cn, pre.count (k : Int) = cn := ⟨_, rfl⟩
            have HCN := Lib.hid hcn
            rw [hcn] at m1 hcp
            have KC : Hid (ASt w (wr.setCell ⟨cb, k, none⟩ (.int .i64 ((cn : Int) + 1))) w.heap.size (w.heap.size + 1) Fa Fb (rngL 64 i allF) (rngL 64 i allF) (.slice pv j cv) (pre.map (allG i)) (.slice (some ⟨cb, 0, none⟩) i i) (cntL i (pre ++ [(k : Int)]))) := by
              have h1 := cnt_set (k := k) (x := (cn : Int) + 1) HR.out.1.st.n3.2
              rw [cntL_in, hcn]
              exact ASt.cnts HR.out.1 h1.2 h1.1
            have OV : (wr.setCell ⟨cb, k, none⟩ (.int .i64 ((cn : Int) + 1))).ownsRow 0 3 1 (.slice pv j cv) j ((pre.map (allG i)).map (Value.int .i64)) := by
              have := KC.out.st.n3.1
              unfold Ints at this
              rw [HNV.out] at this
              exact this
            have hVe : allG i (k : Int) = valS k ((k : Int) * k) := by rw [allG_in ⟨by omega, by omega⟩]; simp
            have HV := Lib.hid hVe
            have hok2 : AllOK i (pre ++ [(k : Int)]) := fun z hz => by
              rcases List.mem_append.1 hz with h | h
              · exact HR.out.2 z h
              · simp at h; subst h; exact .inl ⟨by omega, by omega⟩
            have HOK2 := Lib.hid hok2
            have HW := Lib.hid (whole_in (zs := pre) hk)
            rw [hcn] at HW
            generalize hVV : valS k ((k : Int) * k) = V at *
            clear hVe hok2 hcn hVV hin
            cases hw : wholeB i pre with
            | false => as_aux_lemma =>
              rw [hw] at HW
              clear hw
              go_wp2_with (first
                | (go_at_call 19; (with_reducible refine (cV.out _).mono ?_); rintro y w2 ⟨rfl, rfl⟩)
                | (at_builtin; refine wpList_append_lies _ rfl (.tmp 123) (.tmp 125) 27 rfl 0 3 i0 _ 1 8 ints27' hi hz0 hz1 hz2 rfl (by decide) (.slice pv j cv) j ((pre.map (allG i)).map (Value.int .i64)) rfl (World.ownsRow.alloc OV _) ⟨wr.heap.size, 0, none⟩ 1 1 [.int .i64 V] rfl rfl (fun j u hu => World.news_of_block (by have := heap_alloc_new (wr.setCell ⟨cb, k, none⟩ (.int .i64 ((cn : Int) + 1))) (.cells #[.int .i64 V] 3); simpa using this) j u (by simpa using hu)) (by simp [Value.oneCell']) (by decide) (by unfold maxLen; omega) (by omega) (Nat.zero_le _) (wr.heap.size + 1) (by simp) ?_; intro g5 c5 w5 hown hgrow hat hlt5; have P5 := ints_push (w := wr.setCell ⟨cb, k, none⟩ (.int .i64 ((cn : Int) + 1))) HNV.out hown hgrow (by first | exact hat | (rcases hat with h | h; exact .inl h; right; simp; omega)); have K5 := Lib.hid (ASt.vals KC.out P5.2.1 P5.1 P5.2.2); clear hown hgrow hat P5))
              go_roundg (len - (j + 1))
              case measure => omega
              case rel => exact ⟨j + 1, rfl, by omega, by rw [HT.out, HW.out]; rfl, by go_num, by rw [HT.out, List.map_append]; simp only [List.map_cons, List.map_nil]; rw [HV.out]; exact ⟨K5.out, HOK2.out⟩⟩
            | true => as_aux_lemma =>
              rw [hw] at HW
              clear hw
              by_cases hc0 : cn = 0
              · subst hc0
                rw [show ((0 : Nat) : Int) + 1 = 1 from rfl] at KC OV
                go_wp2_with (first
                  | (go_at_call 19; (with_reducible refine (cV.out _).mono ?_); rintro y w2 ⟨rfl, rfl⟩)
                  | (at_builtin; refine wpList_append_lies _ rfl (.tmp 123) (.tmp 125) 27 rfl 0 3 i0 _ 1 8 ints27' hi hz0 hz1 hz2 rfl (by decide) (.slice pv j cv) j ((pre.map (allG i)).map (Value.int .i64)) rfl (World.ownsRow.alloc OV _) ⟨wr.heap.size, 0, none⟩ 1 1 [.int .i64 V] rfl rfl (fun j u hu => World.news_of_block (by have := heap_alloc_new (wr.setCell ⟨cb, k, none⟩ (.int .i64 1)) (.cells #[.int .i64 V] 3); simpa using this) j u (by simpa using hu)) (by simp [Value.oneCell']) (by decide) (by unfold maxLen; omega) (by omega) (Nat.zero_le _) (wr.heap.size + 1) (by simp) ?_; intro g5 c5 w5 hown hgrow hat hlt5; have P5 := ints_push (w := wr.setCell ⟨cb, k, none⟩ (.int .i64 1)) HNV.out hown hgrow (by first | exact hat | (rcases hat with h | h; exact .inl h; right; simp; omega)); have K5 := Lib.hid (ASt.vals KC.out P5.2.1 P5.1 P5.2.2); clear hown hgrow hat P5))
                go_roundg (len - (j + 1))
                case measure => omega
                case rel => exact ⟨j + 1, rfl, by omega, by rw [HT.out, HW.out]; rfl, by go_num, by rw [HT.out, List.map_append]; simp only [List.map_cons, List.map_nil]; rw [HV.out]; exact ⟨K5.out, HOK2.out⟩⟩
              · have hb : ((cn : Int) + 1 == 1) = false := by simp; omega
                have hb' : decide ((cn : Int) + 1 = 1) = false := by simp; omega
                rw [hb'] at HW
                clear hb'
                go_wp2_with (first
                  | (go_at_call 19; (with_reducible refine (cV.out _).mono ?_); rintro y w2 ⟨rfl, rfl⟩)
                  | (at_builtin; refine wpList_append_lies _ rfl (.tmp 123) (.tmp 125) 27 rfl 0 3 i0 _ 1 8 ints27' hi hz0 hz1 hz2 rfl (by decide) (.slice pv j cv) j ((pre.map (allG i)).map (Value.int .i64)) rfl (World.ownsRow.alloc OV _) ⟨wr.heap.size, 0, none⟩ 1 1 [.int .i64 V] rfl rfl (fun j u hu => World.news_of_block (by have := heap_alloc_new (wr.setCell ⟨cb, k, none⟩ (.int .i64 ((cn : Int) + 1))) (.cells #[.int .i64 V] 3); simpa using this) j u (by simpa using hu)) (by simp [Value.oneCell']) (by decide) (by unfold maxLen; omega) (by omega) (Nat.zero_le _) (wr.heap.size + 1) (by simp) ?_; intro g5 c5 w5 hown hgrow hat hlt5; have P5 := ints_push (w := wr.setCell ⟨cb, k, none⟩ (.int .i64 ((cn : Int) + 1))) HNV.out hown hgrow (by first | exact hat | (rcases hat with h | h; exact .inl h; right; simp; omega)); have K5 := Lib.hid (ASt.vals KC.out P5.2.1 P5.1 P5.2.2); clear hown hgrow hat P5))
                go_roundg (len - (j + 1))
                case measure => omega
                case rel => exact ⟨j + 1, rfl, by omega, by rw [HT.out, HW.out]; rfl, by go_num, by rw [HT.out, List.map_append]; simp only [List.map_cons, List.map_nil]; rw [HV.out]; exact ⟨K5.out, HOK2.out⟩⟩
          · have hout : x < 0 ∨ (0 ≤ x ∧ (i : Int) ≤ x) := by omega
            have cP0 := fun w => place_any x w hfx
            have OV : wr.ownsRow 0 3 1 (.slice pv j cv) j ((pre.map (allG i)).map (Value.int .i64)) := by
              have := HR.out.1.st.n3.1
              unfold Ints at this
              rw [HNV.out] at this
              exact this
            by_cases hq : 0 ≤ placeS x ∧ placeS x < i
            · as_aux_lemma =>
              obtain ⟨q, hpq⟩ : ∃ q : Nat, placeS x = q := ⟨(placeS x).toNat, by omega⟩
              rw [hpq] at cP0 hq
              have hq2 := hq.2
              have cP := Lib.hid cP0
              clear hin hpq hq cP0
              rcases hout with h1 | ⟨h1, h2⟩
              all_goals
                go_wp2_with (first
                  | (go_at_call 21; (with_reducible refine (cP.out _).mono ?_); rintro y w2 ⟨rfl, rfl⟩)
                  | (go_at_call 10; (with_reducible refine (cA.out _ HR.out.1.st.turn).mono ?_); rintro y w5 ⟨rfl, t8⟩))
                go_ret
                exact ⟨rfl, t8⟩
            · have hok2 : AllOK i (pre ++ [x]) := fun z hz => by
                rcases List.mem_append.1 hz with h | h
                · exact HR.out.2 z h
                · simp at h; subst h; exact .inr hq
              have HOK2 := Lib.hid hok2
              have HW := Lib.hid (whole_out (zs := pre) hin)
              have HV := Lib.hid (show allG i x = x from allG_out hin)
              have HCT := Lib.hid (cntL_out (zs := pre) hin)
              have hpc : placeS x = -1 ∨ ∃ q : Nat, placeS x = q ∧ i ≤ q := by
                rcases placeS_cases x with h4 | ⟨q, h4, -⟩
                · exact .inl h4
                · exact .inr ⟨q, h4, by omega⟩
              clear hok2 hq hin
              rcases hpc with hp | ⟨q, hp, hp2⟩
              all_goals as_aux_lemma =>
                rw [hp] at cP0
                have cP := Lib.hid cP0
                clear cP0 hp
                rcases hout with h1 | ⟨h1, h2⟩
                all_goals
                  cases hw : wholeB i pre
                  all_goals
                    clear hw
                    go_wp2_with (first
                      | (go_at_call 21; (with_reducible refine (cP.out _).mono ?_); rintro y w2 ⟨rfl, rfl⟩)
                      | (at_builtin; refine wpList_append_lies _ rfl (.tmp 123) (.tmp 125) 27 rfl 0 3 i0 _ 1 8 ints27' hi hz0 hz1 hz2 rfl (by decide) (.slice pv j cv) j ((pre.map (allG i)).map (Value.int .i64)) rfl (World.ownsRow.alloc OV _) ⟨wr.heap.size, 0, none⟩ 1 1 [.int .i64 x] rfl rfl (fun j u hu => World.news_of_block (by have := heap_alloc_new wr (.cells #[.int .i64 x] 3); simpa using this) j u (by simpa using hu)) (by simp [Value.oneCell']) (by decide) (by unfold maxLen; omega) (by omega) (Nat.zero_le _) (wr.heap.size + 1) (by simp) ?_; intro g5 c5 w5 hown hgrow hat hlt5; have P5 := ints_push (w := wr) HNV.out hown hgrow (by first | exact hat | (rcases hat with h | h; exact .inl h; right; simp; omega)); have K5 := Lib.hid (ASt.vals HR.out.1 P5.2.1 P5.1 P5.2.2); clear hown hgrow hat P5))
                    go_roundg (len - (j + 1))
                    case measure => omega
                    case rel => exact ⟨j + 1, rfl, by omega, by rw [HT.out, HW.out], by go_num, by rw [HT.out, List.map_append, HCT.out]; simp only [List.map_cons, List.map_nil]; rw [HV.out]; exact ⟨K5.out, HOK2.out⟩⟩
        · obtain rfl : j = len := by omega
          have e := List.take_of_length_le (Nat.le_of_eq HZ.out.1)
          rw [e] at HR ⊢
          clear e hgj hlt
          have hfx : ∀ z ∈ zs.map (allG i), fit z := fun z hz => by
            rw [List.mem_map] at hz
            obtain ⟨y, hy, rfl⟩ := hz
            exact allG_fit hn (HZ.out.2.1 y hy)
          have HFX := Lib.hid hfx
          have hxl : (zs.map (allG i)).length = j := by rw [List.length_map]; exact HZ.out.1
          have HXL := Lib.hid hxl
          obtain ⟨pv, cv, rfl, hby⟩ := ASt.byA HR.out.1 hfx
          rw [hxl] at hby ⊢
          have cT := takeAll_any HR.out.1.st.n1 pv j cv (zs.map (allG i)) (by omega) hby
          have hwe : wholeB i zs = eachB (rngL 64 i allF) (zs.map (allG i)) := whole_each hn HR.out.2
          rw [hxl] at HR
          have htk := rng_taken (n := i) (cap := 64) (f := allF) allF_ne
          have HMM := Lib.hid (fun (q : Nat) (hq : q < i) => all_mem hn HR.out.2 q hq)
          have HFD := Lib.hid (fun (q : Nat) (hq : q < i) => all_found hn q hq)
          -- behind Take: the table a may be any
          have tail : ∀ w6, (∃ Fa1 La1, ASt w w6 w.heap.size (w.heap.size + 1) Fa1 Fb La1 (rngL 64 i allF) (.slice pv j cv) (zs.map (allG i)) (.slice (some ⟨cb, 0, none⟩) i i) (cntL i zs)) →
              Calls Try.prog 28 #[.pointer (some ⟨w.heap.size + 1, 0, none⟩), .slice pv j cv] w6 fun e w7 => ∃ v3 s3, e = .returned (.tuple #[v3, .int .i64 s3]) ∧
                ∃ Fa1 La1 Fb1, ASt w w7 w.heap.size (w.heap.size + 1) Fa1 Fb1 La1 (manyL (rngL 64 i allF) (zs.map (allG i))) (.slice pv j cv) (zs.map (allG i)) (.slice (some ⟨cb, 0, none⟩) i i) (cntL i zs) := by
            rintro w6 ⟨Fa1, La1, H6⟩
            obtain ⟨p6, c6, he, hb6⟩ := ASt.byB H6 HFX.out
            simp only [Value.slice.injEq] at he
            obtain ⟨rfl, -, rfl⟩ := he
            rw [HXL.out] at hb6
            refine (many_any H6.st.n2 pv j cv _ (by omega) hb6).mono ?_
            rintro e w7 ⟨v3, rfl, F', h7⟩
            exact ⟨v3, _, rfl, Fa1, La1, F', ASt.stepB H6 h7.turn h7.tab h7.lf⟩
          have HTL := Lib.hid tail
          clear hfx hxl hby tail
          cases hw : wholeB i zs with
          | true => as_aux_lemma =>
            rw [hw] at hwe
            simp only [← hwe, if_true] at cT
            obtain ⟨m1, m2⟩ : (manyE (rngL 64 i allF) (zs.map (allG i))).length = j ∧ manyS (rngL 64 i allF) (zs.map (allG i)) 0 = 0 := by
              unfold eachB at hwe
              have h1 := of_decide_eq_true hwe.symm
              have := many_all h1.1 h1.2
              rw [HXL.out] at this
              exact this
            have m3 := taken_many (rngL 64 i allF) (zs.map (allG i))
            rw [m1, htk] at m3
            have m4 : (((takenL (manyL (rngL 64 i allF) (zs.map (allG i)))).length : Nat) : Int) = (i : Int) - j := by omega
            rw [m2] at cT
            have HM1 := Lib.hid m1
            have HM4 := Lib.hid m4
            clear hw hwe m1 m2 m3 m4 htk
            go_wp2_with (first
              | (go_at_call 27; (with_reducible refine cT.mono ?_); rintro y w5 ⟨v5, rfl, w4, F5, t4, h5⟩; obtain ⟨p5, c5, rfl⟩ := own_slice h5.ents; rw [HM1.out]; have cC := count_any h5.tab; rw [HM4.out] at cC; have K5 := Lib.hid (ASt.stepA HR.out.1 ((t4.mono (fun _ h => h.elim)).trans h5.turn (fun j hj => .inl hj)) h5.tab (fun j hj => by rcases h5.lf j hj with h | h; exact .inl h; right; have := t4.size; omega)); clear t4 h5)
              | (go_at_call 17; (with_reducible refine cC.mono ?_); rintro y w6 ⟨rfl, dr, rfl⟩)
              | (go_at_call 28; (with_reducible refine (HTL.out _ ⟨_, _, K5.out.past ((Turn.refl NoBlock _).drewN _)⟩).mono ?_); rintro y w7 ⟨v7, s7, rfl, Fa7, La7, Fb7, h7⟩; have K7 := Lib.hid h7; clear h7))
            go_loopg [177] i (fun g s wr => ∃ (q : Nat), g = i - q ∧ q ≤ i ∧ s = .int .i64 q ∧ Hid (ASt w wr w.heap.size (w.heap.size + 1) Fa7 Fb7 La7 (manyL (rngL 64 i allF) (zs.map (allG i))) (.slice pv j cv) (zs.map (allG i)) (.slice (some ⟨cb, 0, none⟩) i i) (cntL i zs)))
            case atStart => exact ⟨0, by omega, by omega, rfl, K7.out⟩
            case round => as_aux_lemma =>
              obtain ⟨q, hgq, hq, rfl, HR7⟩ := hrel
              by_cases hlt : q < i
              · have m1 := ints_cell HR7.out.st.n3.2 q (by rw [cntL_len]; exact hlt)
                rw [cntL_at hlt] at m1
                have q1 : (q : Int) * q ≤ 3600 := by have : q * q ≤ 60 * 60 := Nat.mul_le_mul (by omega) (by omega); omega
                have q2 : 0 ≤ (q : Int) * q := by have : 0 ≤ q * q := Nat.zero_le _; omega
                have cV := Lib.hid (fun w => value_yes q ((q : Int) * q) w (by omega))
                have cG := get_any HR7.out.st.n2 (valS q ((q : Int) * q)) (valS_fit q _ (by omega))
                have hfm := findL_many (rngL 64 i allF) (zs.map (allG i)) (valS q ((q : Int) * q))
                rw [HFD.out q hlt] at hfm
                by_cases hm : (q : Int) ∈ zs
                · as_aux_lemma =>
                  rw [if_pos ((HMM.out q hlt).2 hm)] at hfm
                  have hgs : getS (manyL (rngL 64 i allF) (zs.map (allG i))) (valS q ((q : Int) * q)) = -11 := by unfold getS; rw [hfm]
                  rw [hgs] at cG
                  have hc0 : zs.count (q : Int) ≠ 0 := fun h => (List.count_eq_zero.1 h) hm
                  generalize zs.count (q : Int) = cn at *
                  have hb : ((cn : Int) == 0) = false := by simp; omega
                  generalize getE (manyL (rngL 64 i allF) (zs.map (allG i))) (valS q ((q : Int) * q)) = e at *
                  obtain ⟨eo, ek, er⟩ := e
                  unfold Ent.agg at cG
                  generalize valS q ((q : Int) * q) = V at *
                  clear hm hfm hgs hc0
                  go_wp2_with (first
                    | (go_at_call 19; (with_reducible refine (cV.out _).mono ?_); rintro y w8 ⟨rfl, rfl⟩)
                    | (go_at_call 23; (with_reducible refine cG.mono ?_); rintro y w8 ⟨rfl, t8⟩; have K8 := Lib.hid (HR7.out.past t8); clear t8))
                  go_roundg (i - (q + 1))
                  case measure => omega
                  case rel => exact ⟨q + 1, rfl, by omega, by go_num, K8.out.past ((Turn.refl NoBlock _).alloc _)⟩
                · as_aux_lemma =>
                  rw [if_neg (fun h => hm ((HMM.out q hlt).1 h))] at hfm
                  have hgs : getS (manyL (rngL 64 i allF) (zs.map (allG i))) (valS q ((q : Int) * q)) = 0 := by unfold getS; rw [hfm]
                  rw [hgs] at cG
                  rw [List.count_eq_zero.2 hm] at m1
                  generalize getE (manyL (rngL 64 i allF) (zs.map (allG i))) (valS q ((q : Int) * q)) = e at *
                  obtain ⟨eo, ek, er⟩ := e
                  unfold Ent.agg at cG
                  generalize valS q ((q : Int) * q) = V at *
                  clear hm hfm hgs
                  go_wp2_with (first
                    | (go_at_call 19; (with_reducible refine (cV.out _).mono ?_); rintro y w8 ⟨rfl, rfl⟩)
                    | (go_at_call 23; (with_reducible refine cG.mono ?_); rintro y w8 ⟨rfl, t8⟩; have K8 := Lib.hid (HR7.out.past t8); clear t8))
                  go_roundg (i - (q + 1))
                  case measure => omega
                  case rel => exact ⟨q + 1, rfl, by omega, by go_num, K8.out.past ((Turn.refl NoBlock _).alloc _)⟩
              · obtain rfl : q = i := by omega
                go_wp2_with (go_at_call 10; (with_reducible refine (cA.out _ HR7.out.st.turn).mono ?_); rintro y w9 ⟨rfl, t9⟩)
                go_ret
                exact ⟨rfl, t9⟩
          | false => as_aux_lemma =>
            rw [hw] at hwe
            have hne : ¬ eachB (rngL 64 i allF) (zs.map (allG i)) = true := by rw [← hwe]; decide
            simp only [if_neg hne] at cT
            have m4 : (((takenL (rngL 64 i allF)).length : Nat) : Int) = (i : Int) := by omega
            have HM4 := Lib.hid m4
            clear hw hwe hne m4 htk
            go_wp2_with (first
              | (go_at_call 27; (with_reducible refine cT.mono ?_); rintro y w5 ⟨rfl, t4⟩; have cC := count_any (HR.out.1.st.n1.past t4); rw [HM4.out] at cC; have K5 := Lib.hid (HR.out.1.past t4); clear t4)
              | (go_at_call 17; (with_reducible refine cC.mono ?_); rintro y w6 ⟨rfl, dr, rfl⟩)
              | (go_at_call 28; (with_reducible refine (HTL.out _ ⟨_, _, K5.out.past ((Turn.refl NoBlock _).drewN _)⟩).mono ?_); rintro y w7 ⟨v7, s7, rfl, Fa7, La7, Fb7, h7⟩; have K7 := Lib.hid h7; clear h7))
            go_loopg [177] i (fun g s wr => ∃ (q : Nat), g = i - q ∧ q ≤ i ∧ s = .int .i64 q ∧ Hid (ASt w wr w.heap.size (w.heap.size + 1) Fa7 Fb7 La7 (manyL (rngL 64 i allF) (zs.map (allG i))) (.slice pv j cv) (zs.map (allG i)) (.slice (some ⟨cb, 0, none⟩) i i) (cntL i zs)))
            case atStart => exact ⟨0, by omega, by omega, rfl, K7.out⟩
            case round => as_aux_lemma =>
              obtain ⟨q, hgq, hq, rfl, HR7⟩ := hrel
              by_cases hlt : q < i
              · have m1 := ints_cell HR7.out.st.n3.2 q (by rw [cntL_len]; exact hlt)
                rw [cntL_at hlt] at m1
                have q1 : (q : Int) * q ≤ 3600 := by have : q * q ≤ 60 * 60 := Nat.mul_le_mul (by omega) (by omega); omega
                have q2 : 0 ≤ (q : Int) * q := by have : 0 ≤ q * q := Nat.zero_le _; omega
                have cV := Lib.hid (fun w => value_yes q ((q : Int) * q) w (by omega))
                have cG := get_any HR7.out.st.n2 (valS q ((q : Int) * q)) (valS_fit q _ (by omega))
                have hfm := findL_many (rngL 64 i allF) (zs.map (allG i)) (valS q ((q : Int) * q))
                rw [HFD.out q hlt] at hfm
                by_cases hm : (q : Int) ∈ zs
                · as_aux_lemma =>
                  rw [if_pos ((HMM.out q hlt).2 hm)] at hfm
                  have hgs : getS (manyL (rngL 64 i allF) (zs.map (allG i))) (valS q ((q : Int) * q)) = -11 := by unfold getS; rw [hfm]
                  rw [hgs] at cG
                  have hc0 : zs.count (q : Int) ≠ 0 := fun h => (List.count_eq_zero.1 h) hm
                  generalize zs.count (q : Int) = cn at *
                  have hb : ((cn : Int) == 0) = false := by simp; omega
                  generalize getE (manyL (rngL 64 i allF) (zs.map (allG i))) (valS q ((q : Int) * q)) = e at *
                  obtain ⟨eo, ek, er⟩ := e
                  unfold Ent.agg at cG
                  generalize valS q ((q : Int) * q) = V at *
                  clear hm hfm hgs hc0
                  go_wp2_with (first
                    | (go_at_call 19; (with_reducible refine (cV.out _).mono ?_); rintro y w8 ⟨rfl, rfl⟩)
                    | (go_at_call 23; (with_reducible refine cG.mono ?_); rintro y w8 ⟨rfl, t8⟩; have K8 := Lib.hid (HR7.out.past t8); clear t8))
                  go_roundg (i - (q + 1))
                  case measure => omega
                  case rel => exact ⟨q + 1, rfl, by omega, by go_num, K8.out.past ((Turn.refl NoBlock _).alloc _)⟩
                · as_aux_lemma =>
                  rw [if_neg (fun h => hm ((HMM.out q hlt).1 h))] at hfm
                  have hgs : getS (manyL (rngL 64 i allF) (zs.map (allG i))) (valS q ((q : Int) * q)) = 0 := by unfold getS; rw [hfm]
                  rw [hgs] at cG
                  rw [List.count_eq_zero.2 hm] at m1
                  generalize getE (manyL (rngL 64 i allF) (zs.map (allG i))) (valS q ((q : Int) * q)) = e at *
                  obtain ⟨eo, ek, er⟩ := e
                  unfold Ent.agg at cG
                  generalize valS q ((q : Int) * q) = V at *
                  clear hm hfm hgs
                  go_wp2_with (first
                    | (go_at_call 19; (with_reducible refine (cV.out _).mono ?_); rintro y w8 ⟨rfl, rfl⟩)
                    | (go_at_call 23; (with_reducible refine cG.mono ?_); rintro y w8 ⟨rfl, t8⟩; have K8 := Lib.hid (HR7.out.past t8); clear t8))
                  go_roundg (i - (q + 1))
                  case measure => omega
                  case rel => exact ⟨q + 1, rfl, by omega, by go_num, K8.out.past ((Turn.refl NoBlock _).alloc _)⟩
              · obtain rfl : q = i := by omega
                go_wp2_with (go_at_call 10; (with_reducible refine (cA.out _ HR7.out.st.turn).mono ?_); rintro y w9 ⟨rfl, t9⟩)
                go_ret
                exact ⟨rfl, t9⟩
end Go.Proofs.Ytkligmabgmjojaa
