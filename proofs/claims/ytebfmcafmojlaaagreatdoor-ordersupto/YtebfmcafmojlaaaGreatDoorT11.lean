/-
  copselaw.World: keepTexts, walked.
-/
import Derived.Laws.BytesArg
import Derived.Test.YtebfmcafmojlaaaGreatDoorT10
import Derived.Test.YtebfmcafmojlaaaGreatDoorT01
namespace Go.Proofs.YtebfmcafmojlaaaGreatDoor
open Go.RowKit
set_option linter.unusedSimpArgs false
set_option linter.unusedVariables false

theorem law_bump {O : Nat → Prop} {w : World} {wb : Nat} {L : LawS} {av tv mv iv nv : Value} (h : LawAt O w wb L av tv mv iv nv) : LawAt O (w.setCell ⟨wb, 5, none⟩ (.int .i64 ((L.n : Int) + 1))) wb { L with n := L.n + 1 } av tv mv iv nv := by
  have hsize : (w.setCell ⟨wb, 5, none⟩ (.int .i64 ((L.n : Int) + 1))).heap.size = w.heap.size := by simp [World.setCell]
  refine ⟨?_, h.self, ?_, ?_, ?_, ?_, ?_, ?_⟩
  · intro b hb; rw [hsize]; exact h.lt b hb
  · rw [heap_setCell_at h.cells]; rfl
  · exact h.tbs.stored (row_ne_type h.cells h.tbs.1 (by decide))
  · exact h.texts.stored (row_ne_type h.cells h.texts.1 (by decide))
  · exact h.marks.stored (row_ne_type h.cells h.marks.1 (by decide))
  · exact h.ints.stored (row_ne_type h.cells h.ints.1 (by decide))
  · exact h.nums.stored (row_ne_type h.cells h.nums.1 (by decide))

theorem Tryz.infoStrs : (Tryz.prog.info? 39).map (fun i => (i.zero, i.size, i.bytes)) = some (some (.slice none 0 0), 1, 24) := by kernel_rfl
theorem one_cell_slice (a : Option Addr) (n c : Nat) : ∀ x ∈ [Value.slice a n c], x.oneCell' = true := by intro x hx; simp at hx; subst hx; rfl

theorem kt_bound {x a k : Nat} (hx : x = a + k) (ha : a ≤ 100000000) (hk : k < 4) : x + 1 ≤ maxLen ∧ (x + 1) * 24 ≤ 140737488355328 ∧ (x + 1) * 16 ≤ 140737488355328 := by
  subst hx
  exact ⟨le_maxLen (by omega), by omega, by omega⟩
theorem kt_three {n k : Nat} (hn : n ≤ 2000000) (hk : k < 4) : n + k ≤ 3000000 := by omega

theorem cell_one_at (w : World) (a : Value) (t : TypeId) (q : Nat) (hq : q = w.heap.size) : ∀ j u, [a][j]? = some u → (w.alloc (.cells #[a] t)).cell? ((⟨q, 0, none⟩ : Addr).add j) = some u := by
  subst hq
  exact cell_one_new _ _ _

theorem set_mark (m : ByteArray) (xs : List Value) (k : Nat) (h : k < xs.length) : (List.replicate k (Value.string m) ++ xs.drop k).set k (Value.string m) = List.replicate (k + 1) (Value.string m) ++ xs.drop (k + 1) := by
  rw [List.set_append_right _ _ (by simp)]
  simp only [List.length_replicate, Nat.sub_self]
  rw [List.drop_eq_getElem_cons h, List.set_cons_zero, List.replicate_succ', List.append_assoc]
  rfl

theorem mark_string (w : World) (wb : Nat) (V : Value) (x y z : Int) :
    (convert 55 9 (.slice (some ⟨w.heap.size, 0, none⟩) 3 3)).run Tryz.prog (((w.setCell ⟨wb, 5, none⟩ V).alloc (.cells #[.int .u8 x, .int .u8 y, .int .u8 z] 5)).drew) = .ok (.string (strOfNums [x, y, z])) (((w.setCell ⟨wb, 5, none⟩ V).alloc (.cells #[.int .u8 x, .int .u8 y, .int .u8 z] 5)).drew) := by
  have hs : (w.setCell ⟨wb, 5, none⟩ V).heap.size = w.heap.size := by simp [World.setCell]
  have hb : (((w.setCell ⟨wb, 5, none⟩ V).alloc (.cells #[.int .u8 x, .int .u8 y, .int .u8 z] 5)).drew).heap[w.heap.size]? = some (.cells #[.int .u8 x, .int .u8 y, .int .u8 z] 5 (0, 0)) := by
    rw [← hs]; exact heap_alloc_new _ _
  refine run_convert_bytes_arg _ 55 5 Tryz.underlying55 Tryz.underlying5 w.heap.size 0 3 3 [x, y, z] rfl ?_ 9 Tryz.underlying9
  intro i hi
  rw [cell_of_heap hb]
  match i, hi with
  | 0, _ => rfl
  | 1, _ => rfl
  | 2, _ => rfl

set_option maxHeartbeats 4000000 in
set_option maxRecDepth 20000 in
theorem lawKeepTexts {O K : Nat → Prop} {w : World} {wb : Nat} {L : LawS} {av tv mv iv nv : Value} (h : LawAt O w wb L av tv mv iv nv) (hK : Kept K w L) (hd : ∀ b, O b → ¬ K b) (hn : L.n ≤ 100000000) (htl : L.texts.length ≤ 100000000)
    {lv : Value} {n : Nat} {xs : List Value} (hlv : w.ownsRow 0 9 1 lv n xs) (hl0 : ∀ k, lv.ownBlock = some k → ¬ O k ∧ ¬ K k) (hnl : n ≤ 2000000) :
    Calls Tryz.prog 118 #[.pointer (some ⟨wb, 0, none⟩), lv] w fun e w' => e = .returned (.tuple #[]) ∧ KeepLPost O K w wb L lv w' 4 0 := by
  have hwl := h.lt wb h.self
  have hc5 : w.cell? ⟨wb, 5, none⟩ = some (.int .i64 (L.n : Int)) := by rw [cell_of_heap h.cells]; rfl
  have hf5 := frozen_of_heap (o := 5) h.cells
  have hc5' : (w.setCell ⟨wb, 5, none⟩ (.int .i64 ((L.n : Int) + 1))).cell? ⟨wb, 5, none⟩ = some (.int .i64 ((L.n : Int) + 1)) := by rw [cell_of_heap (heap_setCell_at h.cells)]; rfl
  obtain ⟨lao, lcap, rfl⟩ := owns_form hlv
  have hcv := fun V x y z => mark_string w wb V x y z
  go_enter Tryz.func118, Tryz.ntmps118
  go_wp2
  go_region_held (fun w' => w'.cell? ⟨wb, 5, none⟩ = some (.int .i64 ((L.n : Int) + 1))) (go_keep) (fail)
  all_goals go_wp2
  generalize (ByteArray.mk #[109, 97, 114, 107, 32] ++ strOfNums [((L.n : Int) + 1) % 256, ((L.n : Int) + 1) / 256 % 256, ((L.n : Int) + 1) / 65536 % 256]) = m
  obtain ⟨W1, hW1⟩ : ∃ W1, W1 = ((w.setCell ⟨wb, 5, none⟩ (.int .i64 ((L.n : Int) + 1))).alloc (.cells #[.int .u8 (((L.n : Int) + 1) % 256), .int .u8 (((L.n : Int) + 1) / 256 % 256), .int .u8 (((L.n : Int) + 1) / 65536 % 256)] 5)).drew := ⟨_, rfl⟩
  rw [← hW1]
  have hbb : Below (w.setCell ⟨wb, 5, none⟩ (.int .i64 ((L.n : Int) + 1))).heap.size (w.setCell ⟨wb, 5, none⟩ (.int .i64 ((L.n : Int) + 1))) W1 := by rw [hW1]; exact ((Below.refl _ _).alloc (Nat.le_refl _) _).drew
  have hL1 : LawAt O W1 wb { L with n := L.n + 1 } av tv mv iv nv := (law_bump h).below hbb
  have hon1 : Only O w W1 := ((Only.refl O w).setCell (p := ⟨wb, 5, none⟩) (.inl h.self) _).then_below hbb
  have hK1 : Kept K W1 L := hK.keep hon1.size (fun k hk => hon1.block k (hK.lt k hk) (fun e => hd k e hk))
  have hlv1 : W1.ownsRow 0 9 1 (.slice lao n lcap) n xs := owns_same hlv (fun k hk => hon1.block k (hlv.lt k hk).2 (hl0 k hk).1)
  obtain ⟨s0, hs, sz0, sz1, sz2⟩ := info_parts Tryz.infoStrs
  obtain ⟨j0, hj, gz0, gz1, gz2⟩ := info_parts Tryz.infoStrR
  have hml : L.marks.length ≤ 100000000 := by rw [← hK.tl]; exact htl
  have hlt0 : ∀ b, (Value.slice lao n lcap).ownBlock = some b → b < w.heap.size := fun b hb => (hlv.lt b hb).2
  clear hW1 hbb hcv hc5 hf5 hc5' h hK hlv
  rcases hlv1.2 with ⟨hnil, hn0⟩ | ⟨g, cap, cur, hsome, _⟩
  · simp only [Value.slice.injEq] at hnil
    obtain ⟨rfl, rfl, rfl⟩ := hnil
    go_loopw [5] (fun i wr => i = .int .i64 0 ∧ wr = W1) (fun _ _ => 0)
    case atStart => exact ⟨rfl, rfl⟩
    case round =>
      obtain ⟨rfl, rfl⟩ := hrel
      obtain ⟨k0, hk0⟩ : ∃ k0 : Nat, k0 = 0 := ⟨0, rfl⟩
      have hrow : wr.ownsRow 0 9 1 (.slice none 0 0) k0 (List.replicate k0 (Value.string m)) := by rw [hk0]; exact World.ownsRow_nil wr 0 9 1
      have hnl : k0 ≤ 2000000 := by omega
      clear hk0
      have hon2 : Only (fun b => (Value.slice none 0 0).ownBlock = some b) wr wr := Only.refl _ _
      have hst := ktst_start hL1 hK1 hd hl0 hon1 hrow hon2 hlt0
      clear hrow hon2 hlv1 hL1 hon1 hK1
      go_wp2
      go_loopw [1, 6] (fun lv i wr => ∃ k : Nat, k ≤ 4 ∧ i = .int .i64 k ∧ KTrel O K w wb L (.slice none 0 0) k0 m wr k lv) (fun _ i _ => 4 - (intOf i).toNat)
      case atStart => exact ⟨0, by omega, rfl, ⟨_, _, _, _, _, _, _, _, hst⟩⟩
      case round =>
        clear hst
        obtain ⟨k, hk, rfl, hst⟩ := hrel
        by_cases hk4 : k < 4
        · obtain ⟨O', KR, R, av', tv', mv', iv', nv', hst⟩ := hst
          have hcl := hst.law.cells
          have c1 := cell_of_heap (o := 1) hcl
          simp only [List.getElem?_toArray, List.getElem?_cons_succ, List.getElem?_cons_zero] at c1
          have hb1 := kt_bound (x := (L.texts ++ R).length) (by rw [List.length_append, hst.rl]) htl hk4
          have hb3 := kt_bound (x := (L.marks ++ List.replicate k m).length) (by rw [List.length_append, List.length_replicate]) hml hk4
          have hb5 := kt_bound (x := k0 + k) rfl (Nat.le_trans hnl (by decide)) hk4
          obtain ⟨qao, qcap, rfl⟩ := owns_form hst.row
          clear hcl
          go_wp2_with (first
            | (at_builtin; refine wpList_append_placed rfl (.tmp 53) (.tmp 55) 60 rfl 0 39 s0 (.slice none 0 0) 1 24 Tryz.underlying60 hs sz0 sz1 sz2 rfl (by decide) _ _ _ rfl (hst.law.texts.1.alloc _) _ 1 1 [Value.slice qao (k0 + k) qcap] rfl rfl ?_ ?_ hb1.1 hb1.2.1 (Nat.zero_le _) ?_; exact cell_one_new _ _ _; exact one_cell_slice _ _ _; intro v1 w1 hown1 hgr1 hpl1; replace hown1 := gen_len hown1; obtain ⟨N1, hown1⟩ := hown1; obtain ⟨pao, pcap, rfl⟩ := owns_form hown1; have h6 := law_cells hst.law hgr1 (row_ne_type hst.law.cells hst.law.texts.1 (by decide)); have f1 := frozen_of_heap (o := 1) h6; have g1 := cell_of_heap (o := 1) h6; simp only [List.getElem?_toArray, List.getElem?_cons_succ, List.getElem?_cons_zero] at g1; have hst1 := hst.texts (kt_three hnl hk4) hgr1 hpl1 hown1; have c2 := cell_of_heap (o := 2) hst1.law.cells; simp only [List.getElem?_toArray, List.getElem?_cons_succ, List.getElem?_cons_zero] at c2; clear h6 hgr1 hpl1 hown1)
            | (at_builtin; refine wpList_append_placed rfl (.tmp 63) (.tmp 65) 39 rfl 0 9 j0 (.string ByteArray.empty) 1 16 Tryz.underlying39 hj gz0 gz1 gz2 rfl (by decide) _ _ _ rfl (marks_owns hst1) _ 1 1 [Value.string m] rfl rfl ?_ ?_ hb3.1 hb3.2.2 (Nat.zero_le _) ?_; exact cell_one_at _ _ _ _ (by simp [World.setCell]); exact one_cell_str _; intro v2 w2 hown2 hgr2 hpl2; replace hown2 := gen_len hown2; obtain ⟨N2, hown2⟩ := hown2; obtain ⟨pao2, pcap2, rfl⟩ := owns_form hown2; have h6 := law_cells hst1.law hgr2 (row_ne_type hst1.law.cells hst1.law.marks.1 (by decide)); have f2 := frozen_of_heap (o := 2) h6; have g2 := cell_of_heap (o := 2) h6; simp only [List.getElem?_toArray, List.getElem?_cons_succ, List.getElem?_cons_zero] at g2; have hst2 := hst1.marks hgr2 hpl2 hown2; clear h6 hgr2 hpl2 hown2)
            | (at_builtin; refine wpList_append_moved rfl (.tmp 69) (.tmp 71) 39 rfl 0 9 j0 (.string ByteArray.empty) 1 16 Tryz.underlying39 hj gz0 gz1 gz2 rfl (by decide) _ _ _ rfl (hst2.row.alloc _) _ 1 1 [Value.string m] rfl rfl ?_ ?_ hb5.1 hb5.2.2 (Nat.zero_le _) ?_; exact cell_one_at _ _ _ _ (by simp [World.setCell]); exact one_cell_str _; intro v3 w3 hown3 hgr3 hpl3; have hst3 := hst2.lvs hgr3 hpl3 hown3; clear hgr3 hpl3 hown3))
          go_roundw
          case rel => exact ⟨k + 1, by omega, by go_num, ⟨_, _, _, _, _, _, _, _, hst3⟩⟩
          case measure => simp [intOf]; omega
        · have hk5 : k = 4 := by omega
          subst hk5
          go_wp2_with fail
          go_end0
          obtain ⟨O', KR, R, av', tv', mv', iv', nv', hst⟩ := hst
          exact ⟨rfl, ktst_end hst⟩
  · simp only [Value.slice.injEq] at hsome
    obtain ⟨rfl, _, rfl⟩ := hsome
    go_loopw [5] (fun i wr => ∃ k : Nat, k ≤ n ∧ i = .int .i64 k ∧ wr.ownsRow 0 9 1 (.slice (some ⟨g, 0, none⟩) n lcap) n (List.replicate k (Value.string m) ++ xs.drop k) ∧ Only (fun b => (Value.slice (some ⟨g, 0, none⟩) n lcap).ownBlock = some b) W1 wr) (fun i _ => n - (intOf i).toNat)
    case atStart => exact ⟨0, Nat.zero_le _, rfl, by simpa using hlv1, Only.refl _ _⟩
    case round =>
      obtain ⟨k, hk, rfl, hrow, hon2⟩ := hrel
      by_cases hkn : k < n
      · have hxl : xs.length = n := by have := hlv1.1; omega
        obtain ⟨u, hu⟩ : ∃ u, wr.cell? ⟨g, k, none⟩ = some u := ⟨_, (hrow.cellAt k (by omega)).trans (List.getElem?_eq_getElem (by simp; omega))⟩
        have hfz := hrow.frozenAt k
        have hst := hrow.stored k (Value.string m)
        have hset : (List.replicate k (Value.string m) ++ xs.drop k).set k (Value.string m) = List.replicate (k + 1) (Value.string m) ++ xs.drop (k + 1) := set_mark m xs k (by omega)
        rw [hset] at hst
        have HS : Hid _ := hst
        clear hset hst
        go_wp2
        go_roundw
        case rel => exact ⟨k + 1, by omega, by go_num, HS.out.1, hon2.grown HS.out.2 (fun k hk => .inl hk)⟩
        case measure => simp [intOf]; omega
      · have hkn' : k = n := by omega
        subst hkn'
        have hxd : xs.drop k = [] := List.drop_eq_nil_of_le (by have := hlv1.1; omega)
        rw [hxd, List.append_nil] at hrow
        clear hxd
        obtain ⟨k0, hk0⟩ : ∃ k0, k0 = k := ⟨_, rfl⟩
        subst hk0
        have hst := ktst_start hL1 hK1 hd hl0 hon1 hrow hon2 hlt0
        clear hrow hon2 hlv1 hL1 hon1 hK1
        go_wp2
        go_loopw [1, 6] (fun lv i wr => ∃ k : Nat, k ≤ 4 ∧ i = .int .i64 k ∧ KTrel O K w wb L (.slice (some ⟨g, 0, none⟩) k0 lcap) k0 m wr k lv) (fun _ i _ => 4 - (intOf i).toNat)
        case atStart => exact ⟨0, by omega, rfl, ⟨_, _, _, _, _, _, _, _, hst⟩⟩
        case round =>
          clear hst
          obtain ⟨k, hk, rfl, hst⟩ := hrel
          by_cases hk4 : k < 4
          · obtain ⟨O', KR, R, av', tv', mv', iv', nv', hst⟩ := hst
            have hcl := hst.law.cells
            have c1 := cell_of_heap (o := 1) hcl
            simp only [List.getElem?_toArray, List.getElem?_cons_succ, List.getElem?_cons_zero] at c1
            have hb1 := kt_bound (x := (L.texts ++ R).length) (by rw [List.length_append, hst.rl]) htl hk4
            have hb3 := kt_bound (x := (L.marks ++ List.replicate k m).length) (by rw [List.length_append, List.length_replicate]) hml hk4
            have hb5 := kt_bound (x := k0 + k) rfl (Nat.le_trans hnl (by decide)) hk4
            obtain ⟨qao, qcap, rfl⟩ := owns_form hst.row
            clear hcl
            go_wp2_with (first
              | (at_builtin; refine wpList_append_placed rfl (.tmp 53) (.tmp 55) 60 rfl 0 39 s0 (.slice none 0 0) 1 24 Tryz.underlying60 hs sz0 sz1 sz2 rfl (by decide) _ _ _ rfl (hst.law.texts.1.alloc _) _ 1 1 [Value.slice qao (k0 + k) qcap] rfl rfl ?_ ?_ hb1.1 hb1.2.1 (Nat.zero_le _) ?_; exact cell_one_new _ _ _; exact one_cell_slice _ _ _; intro v1 w1 hown1 hgr1 hpl1; replace hown1 := gen_len hown1; obtain ⟨N1, hown1⟩ := hown1; obtain ⟨pao, pcap, rfl⟩ := owns_form hown1; have h6 := law_cells hst.law hgr1 (row_ne_type hst.law.cells hst.law.texts.1 (by decide)); have f1 := frozen_of_heap (o := 1) h6; have g1 := cell_of_heap (o := 1) h6; simp only [List.getElem?_toArray, List.getElem?_cons_succ, List.getElem?_cons_zero] at g1; have hst1 := hst.texts (kt_three hnl hk4) hgr1 hpl1 hown1; have c2 := cell_of_heap (o := 2) hst1.law.cells; simp only [List.getElem?_toArray, List.getElem?_cons_succ, List.getElem?_cons_zero] at c2; clear h6 hgr1 hpl1 hown1)
              | (at_builtin; refine wpList_append_placed rfl (.tmp 63) (.tmp 65) 39 rfl 0 9 j0 (.string ByteArray.empty) 1 16 Tryz.underlying39 hj gz0 gz1 gz2 rfl (by decide) _ _ _ rfl (marks_owns hst1) _ 1 1 [Value.string m] rfl rfl ?_ ?_ hb3.1 hb3.2.2 (Nat.zero_le _) ?_; exact cell_one_at _ _ _ _ (by simp [World.setCell]); exact one_cell_str _; intro v2 w2 hown2 hgr2 hpl2; replace hown2 := gen_len hown2; obtain ⟨N2, hown2⟩ := hown2; obtain ⟨pao2, pcap2, rfl⟩ := owns_form hown2; have h6 := law_cells hst1.law hgr2 (row_ne_type hst1.law.cells hst1.law.marks.1 (by decide)); have f2 := frozen_of_heap (o := 2) h6; have g2 := cell_of_heap (o := 2) h6; simp only [List.getElem?_toArray, List.getElem?_cons_succ, List.getElem?_cons_zero] at g2; have hst2 := hst1.marks hgr2 hpl2 hown2; clear h6 hgr2 hpl2 hown2)
              | (at_builtin; refine wpList_append_moved rfl (.tmp 69) (.tmp 71) 39 rfl 0 9 j0 (.string ByteArray.empty) 1 16 Tryz.underlying39 hj gz0 gz1 gz2 rfl (by decide) _ _ _ rfl (hst2.row.alloc _) _ 1 1 [Value.string m] rfl rfl ?_ ?_ hb5.1 hb5.2.2 (Nat.zero_le _) ?_; exact cell_one_at _ _ _ _ (by simp [World.setCell]); exact one_cell_str _; intro v3 w3 hown3 hgr3 hpl3; have hst3 := hst2.lvs hgr3 hpl3 hown3; clear hgr3 hpl3 hown3))
            go_roundw
            case rel => exact ⟨k + 1, by omega, by go_num, ⟨_, _, _, _, _, _, _, _, hst3⟩⟩
            case measure => simp [intOf]; omega
          · have hk5 : k = 4 := by omega
            subst hk5
            go_wp2_with fail
            go_end0
            obtain ⟨O', KR, R, av', tv', mv', iv', nv', hst⟩ := hst
            exact ⟨rfl, ktst_end hst⟩

end Go.Proofs.YtebfmcafmojlaaaGreatDoor

/-
  copselaw.World: keepInts: what one round does.
-/
namespace Go.Proofs.YtebfmcafmojlaaaGreatDoor
open Go.RowKit
set_option linter.unusedSimpArgs false
set_option linter.unusedVariables false

/-- In the midst of keepInts: R the lists that it has recorded, lv the list at hand, all of its cells marked. -/
structure KIst (O K : Nat → Prop) (w : World) (wb : Nat) (L : LawS) (lv0 : Value) (n : Nat) (m : Int) (wr : World) (kt km kl : Nat) (lv : Value) (O' KR : Nat → Prop) (R : List Value) (av tv mv iv nv : Value) : Prop where
  law : LawAt O' wr wb { L with n := L.n + 1, ints := L.ints ++ R, nums := L.nums ++ List.replicate km m } av tv mv iv nv
  rl : R.length = kt
  kept : Kept K wr L
  ok : ∀ b, O' b → ¬ K b
  okr : ∀ b, O' b → ¬ KR b
  krl : ∀ b, KR b → b < wr.heap.size
  kkr : ∀ b, K b → ¬ KR b
  recd : ∀ v ∈ R, KeptI KR wr v m
  len : ∀ v ∈ R, ∀ b j cap, v = .slice (some ⟨b, 0, none⟩) j cap → j ≤ n + kl
  row : wr.ownsRow 0 3 1 lv (n + kl) (List.replicate (n + kl) (zv m))
  lvk : ∀ b, lv.ownBlock = some b → KR b
  only : Only (fun b => O b ∨ lv0.ownBlock = some b) w wr
  grows : Grows w O O'
  krg : ∀ b, KR b → lv0.ownBlock = some b ∨ w.heap.size ≤ b

def KIrel (O K : Nat → Prop) (w : World) (wb : Nat) (L : LawS) (lv0 : Value) (n : Nat) (m : Int) (wr : World) (k : Nat) (lv : Value) : Prop := ∃ O' KR R av tv mv iv nv, KIst O K w wb L lv0 n m wr k k k lv O' KR R av tv mv iv nv

theorem keptI_of_row {KR : Nat → Prop} {wr : World} {lv : Value} {n : Nat} {m : Int} (h : wr.ownsRow 0 3 1 lv n (List.replicate n (zv m))) (hk : ∀ b, lv.ownBlock = some b → KR b) (hn : n ≤ 3000000) : KeptI KR wr lv m := by
  have hc := fun g hg => h.cells (g := g) hg
  rcases h.2 with ⟨rfl, _⟩ | ⟨g, cap, cur, rfl, _⟩
  · exact .inl rfl
  · refine .inr ⟨g, n, cap, rfl, hk g rfl, hn, fun i hi => ?_⟩
    have := hc g rfl i (zv m) (by rw [List.getElem?_replicate]; simp [hi])
    have hadd : (⟨g, 0, none⟩ : Addr).add i = ⟨g, i, none⟩ := by unfold Addr.add; split <;> simp_all
    rw [hadd] at this
    exact this

theorem KIst.ints {O K : Nat → Prop} {w : World} {wb : Nat} {L : LawS} {lv0 : Value} {n : Nat} {m : Int} {wr : World} {kt km kl : Nat} {lv : Value} {O' KR : Nat → Prop} {R : List Value} {av tv mv iv nv : Value}
    (h : KIst O K w wb L lv0 n m wr kt km kl lv O' KR R av tv mv iv nv) {w' : World} {o : Obj} {v' : Value} (hn : n + kl ≤ 3000000) (hg : (wr.alloc o).grownBy w' iv.ownBlock) (hp : Placed (wr.alloc o) iv v')
    {N : Nat} (ho : w'.ownsRow 0 25 1 v' N ((L.ints ++ R) ++ [lv])) :
    KIst O K w wb L lv0 n m (w'.setCell ⟨wb, 3, none⟩ v') (kt + 1) km kl lv (fun b => O' b ∨ v'.ownBlock = some b) KR (R ++ [lv]) av tv mv v' nv := by
  have hN : N = (L.ints ++ R).length + 1 := by have := ho.1; simp at this; simp; omega
  subst hN
  obtain ⟨hl, hon⟩ := h.law.grow_ints (x := lv) hg hp ho
  have hsz : wr.heap.size ≤ (w'.setCell ⟨wb, 3, none⟩ v').heap.size := hon.size
  have hvn : ∀ b, v'.ownBlock = some b → O' b ∨ wr.heap.size ≤ b := by
    intro b hb
    rcases hp b hb with e | e
    · exact .inl (h.law.ints.2 b e)
    · simp at e; exact .inr (by omega)
  have hkr : ∀ k, KR k → (w'.setCell ⟨wb, 3, none⟩ v').heap[k]? = wr.heap[k]? := fun k hk => hon.block k (h.krl k hk) (fun e => h.okr k e hk)
  refine ⟨?_, ?_, ?_, ?_, ?_, ?_, h.kkr, ?_, ?_, ?_, h.lvk, ?_, ?_, h.krg⟩
  · have : ({ L with n := L.n + 1, ints := L.ints ++ (R ++ [lv]), nums := L.nums ++ List.replicate km m } : LawS) = { ({ L with n := L.n + 1, ints := L.ints ++ R, nums := L.nums ++ List.replicate km m } : LawS) with ints := (L.ints ++ R) ++ [lv] } := by simp
    rw [this]
    exact hl
  · simp [h.rl]
  · exact h.kept.keep hsz (fun k hk => hon.block k (h.kept.lt k hk) (fun e => h.ok k e hk))
  · intro b hb hk
    rcases hb with hb | hb
    · exact h.ok b hb hk
    · rcases hvn b hb with e | e
      · exact h.ok b e hk
      · have := h.kept.lt b hk; omega
  · intro b hb hk
    rcases hb with hb | hb
    · exact h.okr b hb hk
    · rcases hvn b hb with e | e
      · exact h.okr b e hk
      · have := h.krl b hk; omega
  · intro b hb; have := h.krl b hb; omega
  · intro v hv
    rcases List.mem_append.1 hv with hv | hv
    · exact (h.recd v hv).keep hkr (fun _ h => h)
    · simp at hv; subst hv
      exact (keptI_of_row h.row h.lvk hn).keep hkr (fun _ h => h)
  · intro v hv b j cap e
    rcases List.mem_append.1 hv with hv | hv
    · exact h.len v hv b j cap e
    · simp at hv; subst hv
      obtain ⟨ao, c, e2⟩ := owns_form h.row
      rw [e2] at e
      simp at e
      omega
  · exact owns_same h.row (fun k hk => hkr k (h.lvk k hk))
  · refine h.only.trans hon ?_
    intro b hb
    rcases h.grows b hb with e | e
    · exact .inl (.inl e)
    · exact .inr e
  · intro b hb
    rcases hb with hb | hb
    · exact h.grows b hb
    · rcases hvn b hb with e | e
      · exact h.grows b e
      · have := h.only.size; exact .inr (by omega)

theorem KIst.nums {O K : Nat → Prop} {w : World} {wb : Nat} {L : LawS} {lv0 : Value} {n : Nat} {m : Int} {wr : World} {kt km kl : Nat} {lv : Value} {O' KR : Nat → Prop} {R : List Value} {av tv mv iv nv : Value}
    (h : KIst O K w wb L lv0 n m wr kt km kl lv O' KR R av tv mv iv nv) {w' : World} {o : Obj} {v' : Value} (hg : (wr.alloc o).grownBy w' nv.ownBlock) (hp : Placed (wr.alloc o) nv v')
    {N : Nat} (ho : w'.ownsRow 0 3 1 v' N ((L.nums ++ List.replicate km m).map zv ++ [zv m])) :
    KIst O K w wb L lv0 n m (w'.setCell ⟨wb, 4, none⟩ v') kt (km + 1) kl lv (fun b => O' b ∨ v'.ownBlock = some b) KR R av tv mv iv v' := by
  have hN : N = (L.nums ++ List.replicate km m).length + 1 := by have := ho.1; simp at this; simp; omega
  subst hN
  obtain ⟨hl, hon⟩ := h.law.grow_nums (x := m) hg hp ho
  have hsz : wr.heap.size ≤ (w'.setCell ⟨wb, 4, none⟩ v').heap.size := hon.size
  have hvn : ∀ b, v'.ownBlock = some b → O' b ∨ wr.heap.size ≤ b := by
    intro b hb
    rcases hp b hb with e | e
    · exact .inl (h.law.nums.2 b e)
    · simp at e; exact .inr (by omega)
  have hkr : ∀ k, KR k → (w'.setCell ⟨wb, 4, none⟩ v').heap[k]? = wr.heap[k]? := fun k hk => hon.block k (h.krl k hk) (fun e => h.okr k e hk)
  refine ⟨?_, h.rl, ?_, ?_, ?_, ?_, h.kkr, ?_, h.len, ?_, h.lvk, ?_, ?_, h.krg⟩
  · have : ({ L with n := L.n + 1, ints := L.ints ++ R, nums := L.nums ++ List.replicate (km + 1) m } : LawS) = { ({ L with n := L.n + 1, ints := L.ints ++ R, nums := L.nums ++ List.replicate km m } : LawS) with nums := (L.nums ++ List.replicate km m) ++ [m] } := by
      simp [List.replicate_succ']
    rw [this]
    exact hl
  · exact h.kept.keep hsz (fun k hk => hon.block k (h.kept.lt k hk) (fun e => h.ok k e hk))
  · intro b hb hk
    rcases hb with hb | hb
    · exact h.ok b hb hk
    · rcases hvn b hb with e | e
      · exact h.ok b e hk
      · have := h.kept.lt b hk; omega
  · intro b hb hk
    rcases hb with hb | hb
    · exact h.okr b hb hk
    · rcases hvn b hb with e | e
      · exact h.okr b e hk
      · have := h.krl b hk; omega
  · intro b hb; have := h.krl b hb; omega
  · intro v hv
    exact (h.recd v hv).keep hkr (fun _ h => h)
  · exact owns_same h.row (fun k hk => hkr k (h.lvk k hk))
  · refine h.only.trans hon ?_
    intro b hb
    rcases h.grows b hb with e | e
    · exact .inl (.inl e)
    · exact .inr e
  · intro b hb
    rcases hb with hb | hb
    · exact h.grows b hb
    · rcases hvn b hb with e | e
      · exact h.grows b e
      · have := h.only.size; exact .inr (by omega)

theorem KIst.lvs {O K : Nat → Prop} {w : World} {wb : Nat} {L : LawS} {lv0 : Value} {n : Nat} {m : Int} {wr : World} {kt km kl : Nat} {lv : Value} {O' KR : Nat → Prop} {R : List Value} {av tv mv iv nv : Value}
    (h : KIst O K w wb L lv0 n m wr kt km kl lv O' KR R av tv mv iv nv) {w' : World} {o : Obj} {v' : Value} (hg : (wr.alloc o).grownBy w' lv.ownBlock) (hp : Moved (wr.alloc o) w' lv v')
    (ho : w'.ownsRow 0 3 1 v' (n + kl + 1) (List.replicate (n + kl) (zv m) ++ [zv m])) :
    KIst O K w wb L lv0 n m w' kt km (kl + 1) v' O' (fun b => KR b ∨ v'.ownBlock = some b) R av tv mv iv nv := by
  have hon : Only KR wr w' := ((Only.refl KR wr).alloc o).grown hg (fun k hk => .inl (h.lvk k hk))
  have hsz : wr.heap.size ≤ w'.heap.size := hon.size
  have hrow : w'.ownsRow 0 3 1 v' (n + (kl + 1)) (List.replicate (n + (kl + 1)) (zv m)) := by
    have e : n + (kl + 1) = n + kl + 1 := by omega
    rw [e, List.replicate_succ']
    exact ho
  have hvn : ∀ b, v'.ownBlock = some b → KR b ∨ wr.heap.size ≤ b := by
    intro b hb
    rcases hp.placed b hb with e | e
    · exact .inl (h.lvk b e)
    · simp at e; exact .inr (by omega)
  refine ⟨?_, h.rl, ?_, h.ok, ?_, ?_, ?_, ?_, ?_, hrow, fun b hb => .inr hb, ?_, h.grows, ?_⟩
  · exact h.law.keep hsz (fun k hk => hon.block k (h.law.lt k hk) (fun e => h.okr k hk e))
  · exact h.kept.keep hsz (fun k hk => hon.block k (h.kept.lt k hk) (fun e => h.kkr k hk e))
  · intro b hb hk
    rcases hk with hk | hk
    · exact h.okr b hb hk
    · rcases hvn b hk with e | e
      · exact h.okr b hb e
      · have := h.law.lt b hb; omega
  · intro b hb
    rcases hb with hb | hb
    · have := h.krl b hb; omega
    · exact (ho.lt b hb).2
  · intro b hb hk
    rcases hk with hk | hk
    · exact h.kkr b hb hk
    · rcases hvn b hk with e | e
      · exact h.kkr b hb e
      · have := h.kept.lt b hb; omega
  · intro v hv
    rcases h.recd v hv with e | ⟨b, j, cap, rfl, hkb, hj, hc⟩
    · exact .inl e
    · refine .inr ⟨b, j, cap, rfl, .inl hkb, hj, fun i hi => ?_⟩
      have hjl := h.len _ hv b j cap rfl
      rcases hp with ⟨g, h1, h2⟩ | ⟨hbel, _⟩
      · by_cases hgb : g = b
        · subst hgb
          have := ho.cells (g := g) h2 i (zv m) (by
            rw [← List.replicate_succ', List.getElem?_replicate]; rw [if_pos (by omega)])
          have hadd : (⟨g, 0, none⟩ : Addr).add i = ⟨g, i, none⟩ := by unfold Addr.add; split <;> simp_all
          rw [hadd] at this
          exact this
        · have hbl := h.krl b hkb
          have := hg.block b (by simp; omega) (by rw [h1]; simp; exact fun e => hgb e.symm)
          rw [World.cell?_of_block (w := wr) (this.trans (Below.heap_alloc _ _ _ hbl))]
          exact hc i hi
      · have hbl := h.krl b hkb
        have := hbel.block b (by simp; omega)
        rw [World.cell?_of_block (w := wr) (this.trans (Below.heap_alloc _ _ _ hbl))]
        exact hc i hi
  · intro v hv b j cap e
    have := h.len v hv b j cap e
    omega
  · refine h.only.trans hon ?_
    intro b hb
    rcases h.krg b hb with e | e
    · exact .inl (.inr e)
    · exact .inr e
  · intro b hb
    rcases hb with hb | hb
    · exact h.krg b hb
    · rcases hvn b hb with e | e
      · exact h.krg b e
      · have := h.only.size; exact .inr (by omega)

theorem kist_start {O K : Nat → Prop} {w : World} {wb : Nat} {L : LawS} {lv : Value} {n : Nat} {m : Int} {W1 wr : World} {av tv mv iv nv : Value}
    (hL : LawAt O W1 wb { L with n := L.n + 1 } av tv mv iv nv) (hK : Kept K W1 L) (hd : ∀ b, O b → ¬ K b) (hl0 : ∀ k, lv.ownBlock = some k → ¬ O k ∧ ¬ K k) (ho1 : Only O w W1) (hrow : wr.ownsRow 0 3 1 lv n (List.replicate n (zv m))) (ho : Only (fun b => lv.ownBlock = some b) W1 wr) (hlt : ∀ b, lv.ownBlock = some b → b < w.heap.size) :
    KIst O K w wb L lv n m wr 0 0 0 lv O (fun b => lv.ownBlock = some b) [] av tv mv iv nv := by
  refine ⟨?_, rfl, ?_, hd, ?_, ?_, ?_, ?_, ?_, hrow, fun b hb => hb, ?_, Grows.refl _ _, fun b hb => .inl hb⟩
  · have := hL.keep ho.size (fun k hk => ho.block k (hL.lt k hk) (fun e => (hl0 k e).1 hk))
    simpa using this
  · exact hK.keep ho.size (fun k hk => ho.block k (hK.lt k hk) (fun e => (hl0 k e).2 hk))
  · intro b hb e; exact (hl0 b e).1 hb
  · intro b hb; exact (hrow.lt b hb).2
  · intro b hb e; exact (hl0 b e).2 hb
  · intro v hv; simp at hv
  · intro v hv; simp at hv
  · refine (ho1.mono (O' := fun b => O b ∨ lv.ownBlock = some b) (fun b hb => .inl hb)).trans (ho.mono (O' := fun b => O b ∨ lv.ownBlock = some b) (fun b hb => .inr hb)) (Grows.refl _ _)

theorem kist_end {O K : Nat → Prop} {w : World} {wb : Nat} {L : LawS} {lv0 : Value} {n : Nat} {m : Int} {wr : World} {lv : Value} {O' KR : Nat → Prop} {R : List Value} {av tv mv iv nv : Value}
    (h : KIst O K w wb L lv0 n m wr 4 4 4 lv O' KR R av tv mv iv nv) : KeepLPost O K w wb L lv0 wr 0 4 := by
  refine ⟨O', fun b => K b ∨ KR b, _, ⟨⟨av, tv, mv, iv, nv, h.law⟩, ⟨?_, h.kept.tl, ?_, ?_, ?_⟩, ?_⟩, rfl, rfl, ?_, rfl, h.only, h.grows, ?_⟩
  · intro b hb
    rcases hb with hb | hb
    · exact h.kept.lt b hb
    · exact h.krl b hb
  · simp [h.rl, h.kept.il]
  · intro k hk
    exact (h.kept.t k hk).keep (fun _ _ => rfl) (fun _ hb => .inl hb)
  · intro k hk
    simp only [List.length_append, h.rl] at hk
    by_cases hko : k < L.ints.length
    · have h1 : (L.ints ++ R).getD k undef = L.ints.getD k undef := by
        rw [List.getD_eq_getElem?_getD, List.getD_eq_getElem?_getD, List.getElem?_append_left hko]
      have h2 : (L.nums ++ List.replicate 4 m).getD k 0 = L.nums.getD k 0 := by
        rw [List.getD_eq_getElem?_getD, List.getD_eq_getElem?_getD, List.getElem?_append_left (by rw [← h.kept.il]; exact hko)]
      show KeptI _ _ ((L.ints ++ R).getD k undef) ((L.nums ++ List.replicate 4 m).getD k 0)
      rw [h1, h2]
      exact (h.kept.i k hko).keep (fun _ _ => rfl) (fun _ hb => .inl hb)
    · have hkr : k - L.ints.length < R.length := by rw [h.rl]; omega
      have h1 : (L.ints ++ R).getD k undef = R[k - L.ints.length] := by
        rw [List.getD_eq_getElem?_getD, List.getElem?_append_right (by omega), List.getElem?_eq_getElem hkr]; rfl
      have h2 : (L.nums ++ List.replicate 4 m).getD k 0 = m := by
        rw [List.getD_eq_getElem?_getD, List.getElem?_append_right (by rw [← h.kept.il]; omega), List.getElem?_replicate]
        rw [if_pos (by rw [← h.kept.il]; omega)]; rfl
      show KeptI _ _ ((L.ints ++ R).getD k undef) ((L.nums ++ List.replicate 4 m).getD k 0)
      rw [h1, h2]
      exact (h.recd _ (List.getElem_mem hkr)).keep (fun _ _ => rfl) (fun _ hb => .inr hb)
  · intro b hb hk
    rcases hk with hk | hk
    · exact h.ok b hb hk
    · exact h.okr b hb hk
  · simp [h.rl]
  · intro b hb
    rcases hb with hb | hb
    · exact .inl hb
    · exact .inr (h.krg b hb)

theorem nums_owns {O K : Nat → Prop} {w : World} {wb : Nat} {L : LawS} {lv0 : Value} {n : Nat} {m : Int} {wr : World} {kt km kl : Nat} {lv : Value} {O' KR : Nat → Prop} {R : List Value} {av tv mv iv nv : Value} {o : Obj}
    (h : KIst O K w wb L lv0 n m wr kt km kl lv O' KR R av tv mv iv nv) : (wr.alloc o).ownsRow 0 3 1 nv (L.nums ++ List.replicate km m).length ((L.nums ++ List.replicate km m).map zv) := by
  have := h.law.nums.1.alloc o
  rwa [List.length_map] at this

end Go.Proofs.YtebfmcafmojlaaaGreatDoor

/-
  copselaw.World: keepInts, walked.
-/
namespace Go.Proofs.YtebfmcafmojlaaaGreatDoor
open Go.RowKit
set_option linter.unusedSimpArgs false
set_option linter.unusedVariables false

theorem kt_eight {x : Nat} (h : x * 16 ≤ 140737488355328) : x * 8 ≤ 140737488355328 := by omega
theorem Tryz.infoIntsl : (Tryz.prog.info? 25).map (fun i => (i.zero, i.size, i.bytes)) = some (some (.slice none 0 0), 1, 24) := by kernel_rfl
theorem set_markI (m : Int) (xs : List Value) (k : Nat) (h : k < xs.length) : (List.replicate k (zv m) ++ xs.drop k).set k (zv m) = List.replicate (k + 1) (zv m) ++ xs.drop (k + 1) := by
  rw [List.set_append_right _ _ (by simp)]
  simp only [List.length_replicate, Nat.sub_self]
  rw [List.drop_eq_getElem_cons h, List.set_cons_zero, List.replicate_succ', List.append_assoc]
  rfl

set_option maxHeartbeats 4000000 in
set_option maxRecDepth 20000 in
theorem lawKeepInts {O K : Nat → Prop} {w : World} {wb : Nat} {L : LawS} {av tv mv iv nv : Value} (h : LawAt O w wb L av tv mv iv nv) (hK : Kept K w L) (hd : ∀ b, O b → ¬ K b) (hn : L.n ≤ 100000000) (htl : L.ints.length ≤ 100000000)
    {lv : Value} {n : Nat} {xs : List Value} (hlv : w.ownsRow 0 3 1 lv n xs) (hl0 : ∀ k, lv.ownBlock = some k → ¬ O k ∧ ¬ K k) (hnl : n ≤ 2000000) :
    Calls Tryz.prog 120 #[.pointer (some ⟨wb, 0, none⟩), lv] w fun e w' => e = .returned (.tuple #[]) ∧ KeepLPost O K w wb L lv w' 0 4 := by
  have hwl := h.lt wb h.self
  have hc5 : w.cell? ⟨wb, 5, none⟩ = some (.int .i64 (L.n : Int)) := by rw [cell_of_heap h.cells]; rfl
  have hf5 := frozen_of_heap (o := 5) h.cells
  have hc5' : (w.setCell ⟨wb, 5, none⟩ (.int .i64 ((L.n : Int) + 1))).cell? ⟨wb, 5, none⟩ = some (.int .i64 ((L.n : Int) + 1)) := by rw [cell_of_heap (heap_setCell_at h.cells)]; rfl
  obtain ⟨lao, lcap, rfl⟩ := owns_form hlv
  go_enter Tryz.func120, Tryz.ntmps120
  go_wp2
  generalize (-77000000 - ((L.n : Int) + 1)) = m
  obtain ⟨W1, hW1⟩ : ∃ W1, W1 = w.setCell ⟨wb, 5, none⟩ (.int .i64 ((L.n : Int) + 1)) := ⟨_, rfl⟩
  rw [← hW1]
  have hL1 : LawAt O W1 wb { L with n := L.n + 1 } av tv mv iv nv := by rw [hW1]; exact law_bump h
  have hon1 : Only O w W1 := by rw [hW1]; exact (Only.refl O w).setCell (p := ⟨wb, 5, none⟩) (.inl h.self) _
  have hK1 : Kept K W1 L := hK.keep hon1.size (fun k hk => hon1.block k (hK.lt k hk) (fun e => hd k e hk))
  have hlv1 : W1.ownsRow 0 3 1 (.slice lao n lcap) n xs := owns_same hlv (fun k hk => hon1.block k (hlv.lt k hk).2 (hl0 k hk).1)
  obtain ⟨s0, hs, sz0, sz1, sz2⟩ := info_parts Tryz.infoIntsl
  obtain ⟨j0, hj, gz0, gz1, gz2⟩ := info_parts Tryz.infoInt
  have hml : L.nums.length ≤ 100000000 := by rw [← hK.il]; exact htl
  have hlt0 : ∀ b, (Value.slice lao n lcap).ownBlock = some b → b < w.heap.size := fun b hb => (hlv.lt b hb).2
  clear hW1 hc5 hf5 hc5' h hK hlv
  rcases hlv1.2 with ⟨hnil, hn0⟩ | ⟨g, cap, cur, hsome, _⟩
  · simp only [Value.slice.injEq] at hnil
    obtain ⟨rfl, rfl, rfl⟩ := hnil
    go_loopw [5] (fun i wr => i = .int .i64 0 ∧ wr = W1) (fun _ _ => 0)
    case atStart => exact ⟨rfl, rfl⟩
    case round =>
      obtain ⟨rfl, rfl⟩ := hrel
      obtain ⟨k0, hk0⟩ : ∃ k0 : Nat, k0 = 0 := ⟨0, rfl⟩
      have hrow : wr.ownsRow 0 3 1 (.slice none 0 0) k0 (List.replicate k0 (zv m)) := by rw [hk0]; exact World.ownsRow_nil wr 0 3 1
      have hnl : k0 ≤ 2000000 := by omega
      clear hk0
      have hon2 : Only (fun b => (Value.slice none 0 0).ownBlock = some b) wr wr := Only.refl _ _
      have hst := kist_start hL1 hK1 hd hl0 hon1 hrow hon2 hlt0
      clear hrow hon2 hlv1 hL1 hon1 hK1
      go_wp2
      go_loopw [1, 6] (fun lv i wr => ∃ k : Nat, k ≤ 4 ∧ i = .int .i64 k ∧ KIrel O K w wb L (.slice none 0 0) k0 m wr k lv) (fun _ i _ => 4 - (intOf i).toNat)
      case atStart => exact ⟨0, by omega, rfl, ⟨_, _, _, _, _, _, _, _, hst⟩⟩
      case round =>
        clear hst
        obtain ⟨k, hk, rfl, hst⟩ := hrel
        by_cases hk4 : k < 4
        · obtain ⟨O', KR, R, av', tv', mv', iv', nv', hst⟩ := hst
          have hcl := hst.law.cells
          have c1 := cell_of_heap (o := 3) hcl
          simp only [List.getElem?_toArray, List.getElem?_cons_succ, List.getElem?_cons_zero] at c1
          have hb1 := kt_bound (x := (L.ints ++ R).length) (by rw [List.length_append, hst.rl]) htl hk4
          have hb3 := kt_bound (x := (L.nums ++ List.replicate k m).length) (by rw [List.length_append, List.length_replicate]) hml hk4
          have hb5 := kt_bound (x := k0 + k) rfl (Nat.le_trans hnl (by decide)) hk4
          obtain ⟨qao, qcap, rfl⟩ := owns_form hst.row
          clear hcl
          go_wp2_with (first
            | (at_builtin; refine wpList_append_placed rfl (.tmp 38) (.tmp 40) 61 rfl 0 25 s0 (.slice none 0 0) 1 24 Tryz.underlying61 hs sz0 sz1 sz2 rfl (by decide) _ _ _ rfl (hst.law.ints.1.alloc _) _ 1 1 [Value.slice qao (k0 + k) qcap] rfl rfl ?_ ?_ hb1.1 hb1.2.1 (Nat.zero_le _) ?_; exact cell_one_new _ _ _; exact one_cell_slice _ _ _; intro v1 w1 hown1 hgr1 hpl1; replace hown1 := gen_len hown1; obtain ⟨N1, hown1⟩ := hown1; obtain ⟨pao, pcap, rfl⟩ := owns_form hown1; have h6 := law_cells hst.law hgr1 (row_ne_type hst.law.cells hst.law.ints.1 (by decide)); have f1 := frozen_of_heap (o := 3) h6; have g1 := cell_of_heap (o := 3) h6; simp only [List.getElem?_toArray, List.getElem?_cons_succ, List.getElem?_cons_zero] at g1; have hst1 := hst.ints (kt_three hnl hk4) hgr1 hpl1 hown1; have c2 := cell_of_heap (o := 4) hst1.law.cells; simp only [List.getElem?_toArray, List.getElem?_cons_succ, List.getElem?_cons_zero] at c2; clear h6 hgr1 hpl1 hown1)
            | (at_builtin; refine wpList_append_placed rfl (.tmp 48) (.tmp 50) 25 rfl 0 3 j0 (.int .i64 0) 1 8 Tryz.underlying25 hj gz0 gz1 gz2 rfl (by decide) _ _ _ rfl (nums_owns hst1) _ 1 1 [zv m] rfl rfl ?_ ?_ hb3.1 (kt_eight hb3.2.2) (Nat.zero_le _) ?_; exact cell_one_at _ _ _ _ (by simp [World.setCell]); exact one_cell_z _; intro v2 w2 hown2 hgr2 hpl2; replace hown2 := gen_len hown2; obtain ⟨N2, hown2⟩ := hown2; obtain ⟨pao2, pcap2, rfl⟩ := owns_form hown2; have h6 := law_cells hst1.law hgr2 (row_ne_type hst1.law.cells hst1.law.nums.1 (by decide)); have f2 := frozen_of_heap (o := 4) h6; have g2 := cell_of_heap (o := 4) h6; simp only [List.getElem?_toArray, List.getElem?_cons_succ, List.getElem?_cons_zero] at g2; have hst2 := hst1.nums hgr2 hpl2 hown2; clear h6 hgr2 hpl2 hown2)
            | (at_builtin; refine wpList_append_moved rfl (.tmp 54) (.tmp 56) 25 rfl 0 3 j0 (.int .i64 0) 1 8 Tryz.underlying25 hj gz0 gz1 gz2 rfl (by decide) _ _ _ rfl (hst2.row.alloc _) _ 1 1 [zv m] rfl rfl ?_ ?_ hb5.1 (kt_eight hb5.2.2) (Nat.zero_le _) ?_; exact cell_one_at _ _ _ _ (by simp [World.setCell]); exact one_cell_z _; intro v3 w3 hown3 hgr3 hpl3; have hst3 := hst2.lvs hgr3 hpl3 hown3; clear hgr3 hpl3 hown3))
          go_roundw
          case rel => exact ⟨k + 1, by omega, by go_num, ⟨_, _, _, _, _, _, _, _, hst3⟩⟩
          case measure => simp [intOf]; omega
        · have hk5 : k = 4 := by omega
          subst hk5
          go_wp2_with fail
          go_end0
          obtain ⟨O', KR, R, av', tv', mv', iv', nv', hst⟩ := hst
          exact ⟨rfl, kist_end hst⟩
  · simp only [Value.slice.injEq] at hsome
    obtain ⟨rfl, _, rfl⟩ := hsome
    go_loopw [5] (fun i wr => ∃ k : Nat, k ≤ n ∧ i = .int .i64 k ∧ wr.ownsRow 0 3 1 (.slice (some ⟨g, 0, none⟩) n lcap) n (List.replicate k (zv m) ++ xs.drop k) ∧ Only (fun b => (Value.slice (some ⟨g, 0, none⟩) n lcap).ownBlock = some b) W1 wr) (fun i _ => n - (intOf i).toNat)
    case atStart => exact ⟨0, Nat.zero_le _, rfl, by simpa using hlv1, Only.refl _ _⟩
    case round =>
      obtain ⟨k, hk, rfl, hrow, hon2⟩ := hrel
      by_cases hkn : k < n
      · have hxl : xs.length = n := by have := hlv1.1; omega
        obtain ⟨u, hu⟩ : ∃ u, wr.cell? ⟨g, k, none⟩ = some u := ⟨_, (hrow.cellAt k (by omega)).trans (List.getElem?_eq_getElem (by simp; omega))⟩
        have hfz := hrow.frozenAt k
        have hst := hrow.stored k (zv m)
        have hset : (List.replicate k (zv m) ++ xs.drop k).set k (zv m) = List.replicate (k + 1) (zv m) ++ xs.drop (k + 1) := set_markI m xs k (by omega)
        rw [hset] at hst
        have HS : Hid _ := hst
        clear hset hst
        go_wp2
        go_roundw
        case rel => exact ⟨k + 1, by omega, by go_num, HS.out.1, hon2.grown HS.out.2 (fun k hk => .inl hk)⟩
        case measure => simp [intOf]; omega
      · have hkn' : k = n := by omega
        subst hkn'
        have hxd : xs.drop k = [] := List.drop_eq_nil_of_le (by have := hlv1.1; omega)
        rw [hxd, List.append_nil] at hrow
        clear hxd
        obtain ⟨k0, hk0⟩ : ∃ k0, k0 = k := ⟨_, rfl⟩
        subst hk0
        have hst := kist_start hL1 hK1 hd hl0 hon1 hrow hon2 hlt0
        clear hrow hon2 hlv1 hL1 hon1 hK1
        go_wp2
        go_loopw [1, 6] (fun lv i wr => ∃ k : Nat, k ≤ 4 ∧ i = .int .i64 k ∧ KIrel O K w wb L (.slice (some ⟨g, 0, none⟩) k0 lcap) k0 m wr k lv) (fun _ i _ => 4 - (intOf i).toNat)
        case atStart => exact ⟨0, by omega, rfl, ⟨_, _, _, _, _, _, _, _, hst⟩⟩
        case round =>
          clear hst
          obtain ⟨k, hk, rfl, hst⟩ := hrel
          by_cases hk4 : k < 4
          · obtain ⟨O', KR, R, av', tv', mv', iv', nv', hst⟩ := hst
            have hcl := hst.law.cells
            have c1 := cell_of_heap (o := 3) hcl
            simp only [List.getElem?_toArray, List.getElem?_cons_succ, List.getElem?_cons_zero] at c1
            have hb1 := kt_bound (x := (L.ints ++ R).length) (by rw [List.length_append, hst.rl]) htl hk4
            have hb3 := kt_bound (x := (L.nums ++ List.replicate k m).length) (by rw [List.length_append, List.length_replicate]) hml hk4
            have hb5 := kt_bound (x := k0 + k) rfl (Nat.le_trans hnl (by decide)) hk4
            obtain ⟨qao, qcap, rfl⟩ := owns_form hst.row
            clear hcl
            go_wp2_with (first
              | (at_builtin; refine wpList_append_placed rfl (.tmp 38) (.tmp 40) 61 rfl 0 25 s0 (.slice none 0 0) 1 24 Tryz.underlying61 hs sz0 sz1 sz2 rfl (by decide) _ _ _ rfl (hst.law.ints.1.alloc _) _ 1 1 [Value.slice qao (k0 + k) qcap] rfl rfl ?_ ?_ hb1.1 hb1.2.1 (Nat.zero_le _) ?_; exact cell_one_new _ _ _; exact one_cell_slice _ _ _; intro v1 w1 hown1 hgr1 hpl1; replace hown1 := gen_len hown1; obtain ⟨N1, hown1⟩ := hown1; obtain ⟨pao, pcap, rfl⟩ := owns_form hown1; have h6 := law_cells hst.law hgr1 (row_ne_type hst.law.cells hst.law.ints.1 (by decide)); have f1 := frozen_of_heap (o := 3) h6; have g1 := cell_of_heap (o := 3) h6; simp only [List.getElem?_toArray, List.getElem?_cons_succ, List.getElem?_cons_zero] at g1; have hst1 := hst.ints (kt_three hnl hk4) hgr1 hpl1 hown1; have c2 := cell_of_heap (o := 4) hst1.law.cells; simp only [List.getElem?_toArray, List.getElem?_cons_succ, List.getElem?_cons_zero] at c2; clear h6 hgr1 hpl1 hown1)
              | (at_builtin; refine wpList_append_placed rfl (.tmp 48) (.tmp 50) 25 rfl 0 3 j0 (.int .i64 0) 1 8 Tryz.underlying25 hj gz0 gz1 gz2 rfl (by decide) _ _ _ rfl (nums_owns hst1) _ 1 1 [zv m] rfl rfl ?_ ?_ hb3.1 (kt_eight hb3.2.2) (Nat.zero_le _) ?_; exact cell_one_at _ _ _ _ (by simp [World.setCell]); exact one_cell_z _; intro v2 w2 hown2 hgr2 hpl2; replace hown2 := gen_len hown2; obtain ⟨N2, hown2⟩ := hown2; obtain ⟨pao2, pcap2, rfl⟩ := owns_form hown2; have h6 := law_cells hst1.law hgr2 (row_ne_type hst1.law.cells hst1.law.nums.1 (by decide)); have f2 := frozen_of_heap (o := 4) h6; have g2 := cell_of_heap (o := 4) h6; simp only [List.getElem?_toArray, List.getElem?_cons_succ, List.getElem?_cons_zero] at g2; have hst2 := hst1.nums hgr2 hpl2 hown2; clear h6 hgr2 hpl2 hown2)
              | (at_builtin; refine wpList_append_moved rfl (.tmp 54) (.tmp 56) 25 rfl 0 3 j0 (.int .i64 0) 1 8 Tryz.underlying25 hj gz0 gz1 gz2 rfl (by decide) _ _ _ rfl (hst2.row.alloc _) _ 1 1 [zv m] rfl rfl ?_ ?_ hb5.1 (kt_eight hb5.2.2) (Nat.zero_le _) ?_; exact cell_one_at _ _ _ _ (by simp [World.setCell]); exact one_cell_z _; intro v3 w3 hown3 hgr3 hpl3; have hst3 := hst2.lvs hgr3 hpl3 hown3; clear hgr3 hpl3 hown3))
            go_roundw
            case rel => exact ⟨k + 1, by omega, by go_num, ⟨_, _, _, _, _, _, _, _, hst3⟩⟩
            case measure => simp [intOf]; omega
          · have hk5 : k = 4 := by omega
            subst hk5
            go_wp2_with fail
            go_end0
            obtain ⟨O', KR, R, av', tv', mv', iv', nv', hst⟩ := hst
            exact ⟨rfl, kist_end hst⟩

end Go.Proofs.YtebfmcafmojlaaaGreatDoor

/-
  copselaw.World: holds.
-/
namespace Go.Proofs.YtebfmcafmojlaaaGreatDoor
open Go.RowKit
set_option linter.unusedSimpArgs false
set_option linter.unusedVariables false

theorem row_cells {O : Nat → Prop} {w : World} {e : TypeId} {v : Value} {xs : List Value} (h : Row O w e v xs) : (v = .slice none 0 0 ∧ xs = []) ∨ ∃ b off cap, v = .slice (some ⟨b, off, none⟩) xs.length cap ∧ ∀ i, i < xs.length → w.cell? ⟨b, off + i, none⟩ = some (xs.getD i undef) := by
  rcases h.reads with h | ⟨b, off, cap, rfl, _, hc⟩
  · exact .inl h
  · exact .inr ⟨b, off, cap, rfl, hc⟩

set_option maxHeartbeats 4000000 in
set_option maxRecDepth 20000 in
theorem lawHolds {O K : Nat → Prop} {w : World} {wb : Nat} {L : LawS} {av tv mv iv nv : Value} (h : LawAt O w wb L av tv mv iv nv) (hK : Kept K w L) (htl : L.texts.length ≤ 100000000) (hil : L.ints.length ≤ 100000000) :
    Calls Tryz.prog 27 #[.pointer (some ⟨wb, 0, none⟩)] w fun e w' => e = .returned (.bool true) ∧ Below w.heap.size w w' := by
  have c1 : w.cell? ⟨wb, 1, none⟩ = some tv := by rw [cell_of_heap h.cells]; rfl
  have c2 : w.cell? ⟨wb, 2, none⟩ = some mv := by rw [cell_of_heap h.cells]; rfl
  have c3 : w.cell? ⟨wb, 3, none⟩ = some iv := by rw [cell_of_heap h.cells]; rfl
  have c4 : w.cell? ⟨wb, 4, none⟩ = some nv := by rw [cell_of_heap h.cells]; rfl
  have ht2 := hK.tl
  have hi2 := hK.il
  have hT : (∃ ao cap, tv = .slice ao 0 cap) ∨ ∃ tb tbo tcap mb mbo mcap, tv = .slice (some ⟨tb, tbo, none⟩) L.texts.length tcap ∧ mv = .slice (some ⟨mb, mbo, none⟩) L.marks.length mcap ∧ (∀ i, i < L.texts.length → w.cell? ⟨tb, tbo + i, none⟩ = some (L.texts.getD i undef)) ∧ (∀ i, i < L.marks.length → w.cell? ⟨mb, mbo + i, none⟩ = some (.string (L.marks.getD i ByteArray.empty))) := by
    rcases row_cells h.texts with ⟨rfl, _⟩ | ⟨tb, tbo, tcap, rfl, htc⟩
    · exact .inl ⟨_, _, rfl⟩
    · rcases row_cells h.marks with ⟨rfl, hm0⟩ | ⟨mb, mbo, mcap, rfl, hmc⟩
      · have hm1 : L.marks = [] := by simpa using hm0
        have ht0 : L.texts = [] := by apply List.eq_nil_of_length_eq_zero; rw [ht2, hm1]; rfl
        rw [ht0]
        exact .inl ⟨_, _, rfl⟩
      · refine .inr ⟨tb, tbo, tcap, mb, mbo, mcap, rfl, by rw [List.length_map], htc, fun i hi => ?_⟩
        rw [hmc i (by simpa using hi)]
        simp [hi]
  have hI : (∃ ao cap, iv = .slice ao 0 cap) ∨ ∃ ib ibo icap nb nbo ncap, iv = .slice (some ⟨ib, ibo, none⟩) L.ints.length icap ∧ nv = .slice (some ⟨nb, nbo, none⟩) L.nums.length ncap ∧ (∀ i, i < L.ints.length → w.cell? ⟨ib, ibo + i, none⟩ = some (L.ints.getD i undef)) ∧ (∀ i, i < L.nums.length → w.cell? ⟨nb, nbo + i, none⟩ = some (.int .i64 (L.nums.getD i 0))) := by
    rcases row_cells h.ints with ⟨rfl, _⟩ | ⟨ib, ibo, icap, rfl, htc⟩
    · exact .inl ⟨_, _, rfl⟩
    · rcases row_cells h.nums with ⟨rfl, hm0⟩ | ⟨nb, nbo, ncap, rfl, hmc⟩
      · have hm1 : L.nums = [] := by simpa using hm0
        have ht0 : L.ints = [] := by apply List.eq_nil_of_length_eq_zero; rw [hi2, hm1]; rfl
        rw [ht0]
        exact .inl ⟨_, _, rfl⟩
      · refine .inr ⟨ib, ibo, icap, nb, nbo, ncap, rfl, by rw [List.length_map], htc, fun i hi => ?_⟩
        rw [hmc i (by simpa using hi)]
        simp [zv, hi]
  clear h
  have HT2 : Hid _ := ht2
  have HI2 : Hid _ := hi2
  clear ht2 hi2
  go_enter Tryz.func27, Tryz.ntmps27
  go_wp2
  rcases hT with ⟨tao, tcap, rfl⟩ | ⟨tb, tbo, tcap, mb, mbo, mcap, rfl, rfl, htbc, hmbc⟩
  · go_loopw [3] (fun i wr => i = .int .i64 0 ∧ ∃ nd, wr = w.drewN nd) (fun _ _ => 0)
    case atStart => exact ⟨rfl, 0, rfl⟩
    case round =>
      obtain ⟨rfl, nd, rfl⟩ := hrel
      go_wp2
      obtain ⟨n1, hn1⟩ : ∃ n1, n1 = nd := ⟨_, rfl⟩
      subst hn1
      rcases hI with ⟨iao, icap, rfl⟩ | ⟨ib, ibo, icap, nb, nbo, ncap, rfl, rfl, hibc, hnbc⟩
      · go_loopw [5] (fun i wr => i = .int .i64 0 ∧ ∃ nd, wr = w.drewN nd) (fun _ _ => 0)
        case atStart => exact ⟨rfl, _, rfl⟩
        case round =>
          obtain ⟨rfl, nd, rfl⟩ := hrel
          go_wp2
          go_ret
          exact ⟨rfl, below_drewN (Below.refl _ _) _⟩
      · go_loopw [5] (fun i wr => ∃ k : Nat, k ≤ L.ints.length ∧ i = .int .i64 k ∧ ∃ nd, wr = w.drewN nd) (fun i _ => L.ints.length - (intOf i).toNat)
        case atStart => exact ⟨0, Nat.zero_le _, rfl, _, rfl⟩
        case round =>
          obtain ⟨k, hk, rfl, nd, rfl⟩ := hrel
          by_cases hkl : k < L.ints.length
          · have hck : w.cell? ⟨ib, ibo + k, none⟩ = some (L.ints.getD k undef) := hibc k hkl
            have hmk : w.cell? ⟨nb, nbo + k, none⟩ = some (.int .i64 (L.nums.getD k 0)) := hnbc k (by rw [← HI2.out]; exact hkl)
            have hkm : k < L.nums.length := by rw [← HI2.out]; exact hkl
            have hkp := hK.i k hkl
            obtain ⟨m, hm⟩ : ∃ m, m = L.nums.getD k 0 := ⟨_, rfl⟩
            obtain ⟨v, hv⟩ : ∃ v, v = L.ints.getD k undef := ⟨_, rfl⟩
            rw [← hm] at hmk hkp
            rw [← hv] at hck hkp
            clear hm hv hibc hnbc
            rcases hkp with rfl | ⟨b, n, cap, rfl, _, hn, hc⟩
            · go_wp2
              obtain ⟨n0, hn0⟩ : ∃ n0, n0 = nd := ⟨_, rfl⟩
              subst hn0
              go_loopw [6] (fun i wr => i = .int .i64 0 ∧ ∃ nd, wr = w.drewN nd) (fun _ _ => 0)
              case atStart => exact ⟨rfl, _, rfl⟩
              case round =>
                obtain ⟨rfl, nd, rfl⟩ := hrel
                go_wp2
                go_roundw
                case rel => exact ⟨k + 1, by omega, by go_num, _, rfl⟩
                case measure => simp [intOf]; omega
            · go_wp2
              obtain ⟨n0, hn0⟩ : ∃ n0, n0 = nd := ⟨_, rfl⟩
              subst hn0
              go_loopw [6] (fun i wr => ∃ j : Nat, j ≤ n ∧ i = .int .i64 j ∧ ∃ nd, wr = w.drewN nd) (fun i _ => n - (intOf i).toNat)
              case atStart => exact ⟨0, Nat.zero_le _, rfl, _, rfl⟩
              case round =>
                obtain ⟨j, hj, rfl, nd, rfl⟩ := hrel
                by_cases hjn : j < n
                · have hcj := hc j hjn
                  clear hc
                  go_wp2
                  go_quiet (fail)
                  go_wp2
                  go_roundw
                  case rel => exact ⟨j + 1, by omega, by go_num, _, rfl⟩
                  case measure => simp [intOf]; omega
                · clear hc
                  go_wp2
                  go_roundw
                  case rel => exact ⟨k + 1, by omega, by go_num, _, rfl⟩
                  case measure => simp [intOf]; omega
          · go_wp2
            go_ret
            exact ⟨rfl, below_drewN (Below.refl _ _) _⟩
  · go_loopw [3] (fun i wr => ∃ k : Nat, k ≤ L.texts.length ∧ i = .int .i64 k ∧ ∃ nd, wr = w.drewN nd) (fun i _ => L.texts.length - (intOf i).toNat)
    case atStart => exact ⟨0, Nat.zero_le _, rfl, 0, rfl⟩
    case round =>
      obtain ⟨k, hk, rfl, nd, rfl⟩ := hrel
      by_cases hkl : k < L.texts.length
      · have hck : w.cell? ⟨tb, tbo + k, none⟩ = some (L.texts.getD k undef) := htbc k hkl
        have hmk : w.cell? ⟨mb, mbo + k, none⟩ = some (.string (L.marks.getD k ByteArray.empty)) := hmbc k (by rw [← HT2.out]; exact hkl)
        have hkm : k < L.marks.length := by rw [← HT2.out]; exact hkl
        have hkp := hK.t k hkl
        obtain ⟨m, hm⟩ : ∃ m, m = L.marks.getD k ByteArray.empty := ⟨_, rfl⟩
        obtain ⟨v, hv⟩ : ∃ v, v = L.texts.getD k undef := ⟨_, rfl⟩
        rw [← hm] at hmk hkp
        rw [← hv] at hck hkp
        clear hm hv htbc hmbc
        rcases hkp with rfl | ⟨b, n, cap, rfl, _, hn, hc⟩
        · go_wp2
          obtain ⟨n0, hn0⟩ : ∃ n0, n0 = nd := ⟨_, rfl⟩
          subst hn0
          go_loopw [4] (fun i wr => i = .int .i64 0 ∧ ∃ nd, wr = w.drewN nd) (fun _ _ => 0)
          case atStart => exact ⟨rfl, _, rfl⟩
          case round =>
            obtain ⟨rfl, nd, rfl⟩ := hrel
            go_wp2
            go_roundw
            case rel => exact ⟨k + 1, by omega, by go_num, _, rfl⟩
            case measure => simp [intOf]; omega
        · go_wp2
          obtain ⟨n0, hn0⟩ : ∃ n0, n0 = nd := ⟨_, rfl⟩
          subst hn0
          go_loopw [4] (fun i wr => ∃ j : Nat, j ≤ n ∧ i = .int .i64 j ∧ ∃ nd, wr = w.drewN nd) (fun i _ => n - (intOf i).toNat)
          case atStart => exact ⟨0, Nat.zero_le _, rfl, _, rfl⟩
          case round =>
            obtain ⟨j, hj, rfl, nd, rfl⟩ := hrel
            by_cases hjn : j < n
            · have hcj := hc j hjn
              clear hc
              go_wp2
              go_quiet (fail)
              go_wp2
              go_roundw
              case rel => exact ⟨j + 1, by omega, by go_num, _, rfl⟩
              case measure => simp [intOf]; omega
            · clear hc
              go_wp2
              go_roundw
              case rel => exact ⟨k + 1, by omega, by go_num, _, rfl⟩
              case measure => simp [intOf]; omega
      · go_wp2
        obtain ⟨n1, hn1⟩ : ∃ n1, n1 = nd := ⟨_, rfl⟩
        subst hn1
        rcases hI with ⟨iao, icap, rfl⟩ | ⟨ib, ibo, icap, nb, nbo, ncap, rfl, rfl, hibc, hnbc⟩
        · go_loopw [5] (fun i wr => i = .int .i64 0 ∧ ∃ nd, wr = w.drewN nd) (fun _ _ => 0)
          case atStart => exact ⟨rfl, _, rfl⟩
          case round =>
            obtain ⟨rfl, nd, rfl⟩ := hrel
            go_wp2
            go_ret
            exact ⟨rfl, below_drewN (Below.refl _ _) _⟩
        · go_loopw [5] (fun i wr => ∃ k : Nat, k ≤ L.ints.length ∧ i = .int .i64 k ∧ ∃ nd, wr = w.drewN nd) (fun i _ => L.ints.length - (intOf i).toNat)
          case atStart => exact ⟨0, Nat.zero_le _, rfl, _, rfl⟩
          case round =>
            obtain ⟨k, hk, rfl, nd, rfl⟩ := hrel
            by_cases hkl : k < L.ints.length
            · have hck : w.cell? ⟨ib, ibo + k, none⟩ = some (L.ints.getD k undef) := hibc k hkl
              have hmk : w.cell? ⟨nb, nbo + k, none⟩ = some (.int .i64 (L.nums.getD k 0)) := hnbc k (by rw [← HI2.out]; exact hkl)
              have hkm : k < L.nums.length := by rw [← HI2.out]; exact hkl
              have hkp := hK.i k hkl
              obtain ⟨m, hm⟩ : ∃ m, m = L.nums.getD k 0 := ⟨_, rfl⟩
              obtain ⟨v, hv⟩ : ∃ v, v = L.ints.getD k undef := ⟨_, rfl⟩
              rw [← hm] at hmk hkp
              rw [← hv] at hck hkp
              clear hm hv hibc hnbc
              rcases hkp with rfl | ⟨b, n, cap, rfl, _, hn, hc⟩
              · go_wp2
                obtain ⟨n0, hn0⟩ : ∃ n0, n0 = nd := ⟨_, rfl⟩
                subst hn0
                go_loopw [6] (fun i wr => i = .int .i64 0 ∧ ∃ nd, wr = w.drewN nd) (fun _ _ => 0)
                case atStart => exact ⟨rfl, _, rfl⟩
                case round =>
                  obtain ⟨rfl, nd, rfl⟩ := hrel
                  go_wp2
                  go_roundw
                  case rel => exact ⟨k + 1, by omega, by go_num, _, rfl⟩
                  case measure => simp [intOf]; omega
              · go_wp2
                obtain ⟨n0, hn0⟩ : ∃ n0, n0 = nd := ⟨_, rfl⟩
                subst hn0
                go_loopw [6] (fun i wr => ∃ j : Nat, j ≤ n ∧ i = .int .i64 j ∧ ∃ nd, wr = w.drewN nd) (fun i _ => n - (intOf i).toNat)
                case atStart => exact ⟨0, Nat.zero_le _, rfl, _, rfl⟩
                case round =>
                  obtain ⟨j, hj, rfl, nd, rfl⟩ := hrel
                  by_cases hjn : j < n
                  · have hcj := hc j hjn
                    clear hc
                    go_wp2
                    go_quiet (fail)
                    go_wp2
                    go_roundw
                    case rel => exact ⟨j + 1, by omega, by go_num, _, rfl⟩
                    case measure => simp [intOf]; omega
                  · clear hc
                    go_wp2
                    go_roundw
                    case rel => exact ⟨k + 1, by omega, by go_num, _, rfl⟩
                    case measure => simp [intOf]; omega
            · go_wp2
              go_ret
              exact ⟨rfl, below_drewN (Below.refl _ _) _⟩

end Go.Proofs.YtebfmcafmojlaaaGreatDoor

/-
  WHAT copselaw ASKS OF THE PROGRAM'S CALLS: a copse as its cap, its names, the order, and the functions of its live handles; each call by its contract.
-/
namespace Go.Proofs.YtebfmcafmojlaaaGreatDoor
open Go.RowKit
set_option linter.unusedSimpArgs false
set_option linter.unusedVariables false

structure CopseSpec (I : (Nat → Prop) → World → Nat → CopS → Prop) (cF cT : Nat) : Prop where
  ne : cF ≠ cT
  cFm : cF < handleMax
  cTm : cT < handleMax
  lt : ∀ {O w x C}, I O w x C → ∀ b, O b → b < w.heap.size
  keep : ∀ {O w w' x C}, I O w x C → w.heap.size ≤ w'.heap.size → (∀ k, O k → w'.heap[k]? = w.heap[k]?) → I O w' x C
  inj : ∀ {O w x C}, I O w x C → ∀ {h h' f}, C.T h = some f → C.T h' = some f → h = h'
  consts : ∀ {O w x C}, I O w x C → C.T cF = some 0 ∧ C.T cT = some onesT
  new_no : ∀ (cap : Int) (w : World), cap < 1 ∨ 300 < cap → Calls Tryz.prog 18 #[.int .i64 cap] w fun e w' => e = .returned (.tuple #[.pointer none, .int .i64 1]) ∧ Below w.heap.size w w'
  new_yes : ∀ (cap : Int) (w : World), 1 ≤ cap → cap ≤ 300 → Calls Tryz.prog 18 #[.int .i64 cap] w fun e w' => ∃ x O, e = .returned (.tuple #[.pointer (some ⟨x, 0, none⟩), .int .i64 0]) ∧ I O w' x ⟨cap, [], [], T0 cF cT⟩ ∧ (∀ b, O b → w.heap.size ≤ b) ∧ Below w.heap.size w w'
  const : ∀ {O w x C}, I O w x C → ∀ b, Calls Tryz.prog 23 #[.pointer (some ⟨x, 0, none⟩), .bool b] w fun e w' => e = .returned (.int .i64 (if b then cT else cF : Nat)) ∧ Below w.heap.size w w'
  var_no : ∀ {O w x C}, I O w x C → ∀ name, name.size ≤ maxLen → (isNameB name = false ∨ 0 ≤ namedI C.names name) → Calls Tryz.prog 19 #[.pointer (some ⟨x, 0, none⟩), .string name] w fun e w' => e = .returned (.tuple #[.int .i64 0, .int .i64 2]) ∧ CopStep I O w x w' C
  var_many : ∀ {O w x C}, I O w x C → ∀ name, name.size ≤ maxLen → isNameB name = true → namedI C.names name = -1 → C.names.length = 6 → Calls Tryz.prog 19 #[.pointer (some ⟨x, 0, none⟩), .string name] w fun e w' => e = .returned (.tuple #[.int .i64 0, .int .i64 3]) ∧ CopStep I O w x w' C
  var : ∀ {O w x C}, I O w x C → ∀ L, Lists C L → ∀ name, name.size ≤ maxLen → isNameB name = true → namedI C.names name = -1 → C.names.length < 6 → Calls Tryz.prog 19 #[.pointer (some ⟨x, 0, none⟩), .string name] w (PostTell I O w x C (fullV C L) (varC C name) (mask C.names.length))
  not_no : ∀ {O w x C}, I O w x C → ∀ h : Int, h < 0 → i64ok h → Calls Tryz.prog 24 #[.pointer (some ⟨x, 0, none⟩), .int .i64 h] w fun e w' => e = .returned (.tuple #[.int .i64 0, .int .i64 4]) ∧ CopStep I O w x w' C
  not : ∀ {O w x C}, I O w x C → ∀ L, Lists C L → ∀ h f, C.T h = some f → Calls Tryz.prog 24 #[.pointer (some ⟨x, 0, none⟩), .int .i64 h] w (PostTell I O w x C (fullC C L (~~~ f)) (toldC C (~~~ f)) (~~~ f))
  ite_no : ∀ {O w x C}, I O w x C → ∀ a b c : Int, i64ok a → i64ok b → i64ok c → (a < 0 ∨ b < 0 ∨ c < 0) → (a < 0 ∨ ∃ f, C.T a.toNat = some f) → (b < 0 ∨ ∃ f, C.T b.toNat = some f) → (c < 0 ∨ ∃ f, C.T c.toNat = some f) → Calls Tryz.prog 22 #[.pointer (some ⟨x, 0, none⟩), .int .i64 a, .int .i64 b, .int .i64 c] w fun e w' => e = .returned (.tuple #[.int .i64 0, .int .i64 4]) ∧ CopStep I O w x w' C
  ite : ∀ {O w x C}, I O w x C → ∀ L, Lists C L → ∀ a b c f g h, C.T a = some f → C.T b = some g → C.T c = some h → Calls Tryz.prog 22 #[.pointer (some ⟨x, 0, none⟩), .int .i64 a, .int .i64 b, .int .i64 c] w (PostTell I O w x C (fullC C L (iteT f g h)) (toldC C (iteT f g h)) (iteT f g h))
  res_no : ∀ {O w x C}, I O w x C → ∀ (h : Int) name b, h < 0 → i64ok h → name.size ≤ maxLen → Calls Tryz.prog 112 #[.pointer (some ⟨x, 0, none⟩), .int .i64 h, .string name, .bool b] w fun e w' => e = .returned (.tuple #[.int .i64 0, .int .i64 4]) ∧ CopStep I O w x w' C
  res_name : ∀ {O w x C}, I O w x C → ∀ h f name b, C.T h = some f → name.size ≤ maxLen → namedI C.names name = -1 → Calls Tryz.prog 112 #[.pointer (some ⟨x, 0, none⟩), .int .i64 h, .string name, .bool b] w fun e w' => e = .returned (.tuple #[.int .i64 0, .int .i64 2]) ∧ CopStep I O w x w' C
  res : ∀ {O w x C}, I O w x C → ∀ L, Lists C L → ∀ h f name b v, C.T h = some f → name.size ≤ maxLen → C.names.findIdx? (fun y => y.toList == name.toList) = some v → Calls Tryz.prog 112 #[.pointer (some ⟨x, 0, none⟩), .int .i64 h, .string name, .bool b] w (PostTell I O w x C (fullC C L (given f v b)) (toldC C (given f v b)) (given f v b))
  eval_no : ∀ {O w x C}, I O w x C → ∀ h a : Int, h < 0 → i64ok h → i64ok a → Calls Tryz.prog 93 #[.pointer (some ⟨x, 0, none⟩), .int .i64 h, .int .i64 a] w fun e w' => e = .returned (.tuple #[.bool false, .int .i64 4]) ∧ CopStep I O w x w' C
  eval : ∀ {O w x C}, I O w x C → ∀ h f (a : Int), C.T h = some f → i64ok a → Calls Tryz.prog 93 #[.pointer (some ⟨x, 0, none⟩), .int .i64 h, .int .i64 a] w fun e w' => e = .returned (.tuple #[.bool (evalR C.names.length f a).1, .int .i64 (evalR C.names.length f a).2]) ∧ CopStep I O w x w' C
  sup_no : ∀ {O w x C}, I O w x C → ∀ h : Int, h < 0 → i64ok h → Calls Tryz.prog 115 #[.pointer (some ⟨x, 0, none⟩), .int .i64 h] w fun e w' => ∃ ao cap, e = .returned (.tuple #[.slice ao 0 cap, .int .i64 4]) ∧ CopStep I O w x w' C
  sup : ∀ {O w x C}, I O w x C → ∀ h f, C.T h = some f → Calls Tryz.prog 115 #[.pointer (some ⟨x, 0, none⟩), .int .i64 h] w fun e w' => ∃ v, e = .returned (.tuple #[v, .int .i64 0]) ∧ w'.ownsRow w.heap.size 9 1 v (varsT C.order [f]).length (((varsT C.order [f]).map (fun u => C.names.getD u ByteArray.empty)).map Value.string) ∧ Only O w w' ∧ ∃ O', I O' w' x C ∧ Grows w O O' ∧ ∀ k, v.ownBlock = some k → ¬ O' k
  nodes_no : ∀ {O w x C}, I O w x C → ∀ (hs : List Int) (fv : Value) (B : Nat), Reads B w fv (hs.map zv) → B ≤ w.heap.size → hs.length ≤ 2000000 → (∀ z ∈ hs, i64ok z) → (∃ z ∈ hs, z < 0) → (∀ z ∈ hs, z < 0 ∨ ∃ f, C.T z.toNat = some f) → Calls Tryz.prog 29 #[.pointer (some ⟨x, 0, none⟩), fv] w fun e w' => e = .returned (.tuple #[.int .i64 0, .int .i64 4]) ∧ CopStep I O w x w' C
  nodes : ∀ {O w x C}, I O w x C → ∀ (hs : List Nat) (fs : List Tab) (fv : Value) (B : Nat), Reads B w fv (hs.map intv) → B ≤ w.heap.size → hs.length ≤ 2000000 → hs.map C.T = fs.map some → Calls Tryz.prog 29 #[.pointer (some ⟨x, 0, none⟩), fv] w fun e w' => e = .returned (.tuple #[.int .i64 ((allT C.order fs).length : Nat), .int .i64 0]) ∧ CopStep I O w x w' C

end Go.Proofs.YtebfmcafmojlaaaGreatDoor

/-
  GRAPHS THAT SHARE, WITH TURNED EDGES: plain mathematics. A reference is twice a node's number, and one more if it is turned.
-/
namespace Go.Proofs.YtebfmcafmojlaaaGreatDoor
set_option linter.unusedSimpArgs false
set_option linter.unusedVariables false

structure Nd where
  v : Nat
  t : Nat
  e : Nat

/-- A graph: the order, the nodes by number, and (beside it) what each tells. -/
structure Gr where
  order : List Nat
  node : Nat → Option Nd
  sem : Nat → Tab

def Gr.ok (G : Gr) (r : Nat) : Prop := r / 2 = 0 ∨ ∃ n, G.node (r / 2) = some n
def Gr.tab (G : Gr) (r : Nat) : Tab := if r % 2 = 0 then G.sem (r / 2) else ~~~ G.sem (r / 2)
def Gr.idx (G : Gr) (v : Nat) : Nat := G.order.idxOf v
def Gr.lev (G : Gr) (r : Nat) : Nat := match G.node (r / 2) with | some n => G.idx n.v | none => G.order.length

/-- f, or its opposite if b is turned. -/
def tl (f b : Nat) : Nat := if b % 2 = 0 then f else if f % 2 = 0 then f + 1 else f - 1

theorem tl_half (f b : Nat) : tl f b / 2 = f / 2 := by unfold tl; split; rfl; split <;> omega
theorem tl_even (f b : Nat) (h : b % 2 = 0) : tl f b = f := by unfold tl; rw [if_pos h]
theorem tl_par (f b : Nat) : tl f b % 2 = (f + b) % 2 := by unfold tl; split; omega; split <;> omega
theorem tl_tl (f b : Nat) : tl (tl f b) b = f := by unfold tl; split; rfl; split <;> split <;> omega
theorem tl_inj {f g b : Nat} (h : tl f b = tl g b) : f = g := by rw [← tl_tl f b, h, tl_tl]

structure Gr.Ok (G : Gr) : Prop where
  nodup : G.order.Nodup
  lt6 : ∀ v ∈ G.order, v < 6
  zero : G.node 0 = none
  sem0 : G.sem 0 = onesT
  var : ∀ {i n}, G.node i = some n → n.v ∈ G.order
  tev : ∀ {i n}, G.node i = some n → n.t % 2 = 0
  tok : ∀ {i n}, G.node i = some n → G.ok n.t
  eok : ∀ {i n}, G.node i = some n → G.ok n.e
  tlev : ∀ {i n}, G.node i = some n → G.idx n.v < G.lev n.t
  elev : ∀ {i n}, G.node i = some n → G.idx n.v < G.lev n.e
  ne : ∀ {i n}, G.node i = some n → n.t ≠ n.e
  is : ∀ {i n}, G.node i = some n → G.sem i = iteT (mask n.v) (G.tab n.t) (G.tab n.e)
  inj : ∀ {i j n}, G.node i = some n → G.node j = some n → i = j

theorem Gr.ok_tl {G : Gr} {f b : Nat} : G.ok (tl f b) ↔ G.ok f := by unfold Gr.ok; rw [tl_half]
theorem Gr.lev_tl {G : Gr} (f b : Nat) : G.lev (tl f b) = G.lev f := by unfold Gr.lev; rw [tl_half]

theorem not_not_tab (f : Tab) : ~~~ (~~~ f) = f := by simp
theorem not_inj_tab {f g : Tab} (h : ~~~ f = ~~~ g) : f = g := by rw [← not_not_tab f, h, not_not_tab]

theorem Gr.tab_tl (G : Gr) (f b : Nat) : G.tab (tl f b) = if b % 2 = 0 then G.tab f else ~~~ G.tab f := by
  have hh := tl_half f b
  have hp := tl_par f b
  unfold Gr.tab
  rw [hh, hp]
  rcases Nat.mod_two_eq_zero_or_one f with h1 | h1 <;> rcases Nat.mod_two_eq_zero_or_one b with h2 | h2
  · have h3 : (f + b) % 2 = 0 := by omega
    simp [h1, h2, h3]
  · have h3 : (f + b) % 2 = 1 := by omega
    simp [h1, h2, h3]
  · have h3 : (f + b) % 2 = 1 := by omega
    simp [h1, h2, h3]
  · have h3 : (f + b) % 2 = 0 := by omega
    simp [h1, h2, h3]

theorem Gr.lev_node {G : Gr} {r : Nat} {n : Nd} (h : G.node (r / 2) = some n) : G.lev r = G.idx n.v := by unfold Gr.lev; rw [h]
theorem Gr.lev_const {G : Gr} (k : G.Ok) {r : Nat} (h : r / 2 = 0) : G.lev r = G.order.length := by unfold Gr.lev; rw [h, k.zero]

theorem Gr.Ok.idx_lt {G : Gr} (k : G.Ok) {i : Nat} {n : Nd} (h : G.node i = some n) : G.idx n.v < G.order.length := List.idxOf_lt_length_of_mem (k.var h)
theorem Gr.Ok.v6 {G : Gr} (k : G.Ok) {i : Nat} {n : Nd} (h : G.node i = some n) : n.v < 6 := k.lt6 _ (k.var h)
theorem Gr.lev_le {G : Gr} (k : G.Ok) (r : Nat) : G.lev r ≤ G.order.length := by
  unfold Gr.lev
  split
  · rename_i n h; exact Nat.le_of_lt (k.idx_lt h)
  · exact Nat.le_refl _
theorem Gr.Ok.pos {G : Gr} (k : G.Ok) {i : Nat} {n : Nd} (h : G.node i = some n) : 0 < i := by
  rcases Nat.eq_zero_or_pos i with e | e
  · subst e; rw [k.zero] at h; cases h
  · exact e
theorem Gr.ok_node {G : Gr} {r : Nat} (h : G.ok r) (h0 : r / 2 ≠ 0) : ∃ n, G.node (r / 2) = some n := h.resolve_left h0
theorem Gr.lev_ne {G : Gr} (k : G.Ok) {r : Nat} (h : G.ok r) (hl : G.lev r < G.order.length) : ∃ n, G.node (r / 2) = some n := by
  rcases h with h | h
  · rw [Gr.lev_const k h] at hl; omega
  · exact h

theorem mask63 (v : Nat) (h : v < 6) : (mask v).getLsbD 63 = true := by
  have := mask_bit v 63 h (by omega)
  rw [this]
  have : ∀ v : Fin 6, (63 : Nat).testBit v.1 = true := by decide
  exact this ⟨v, h⟩

/-- Which of a node and its opposite: the one that is true when all variables are. -/
theorem Gr.Ok.bit63 {G : Gr} (k : G.Ok) : ∀ (d : Nat) (r : Nat), G.ok r → G.order.length - G.lev r ≤ d → (G.sem (r / 2)).getLsbD 63 = true := by
  intro d
  induction d with
  | zero =>
    intro r hr hd
    rcases hr with h | ⟨n, h⟩
    · rw [h, k.sem0]; exact onesT_bit 63 (by omega)
    · have := k.idx_lt h
      rw [Gr.lev_node h] at hd
      omega
  | succ d ih =>
    intro r hr hd
    rcases hr with h | ⟨n, h⟩
    · rw [h, k.sem0]; exact onesT_bit 63 (by omega)
    · rw [k.is h, iteT_bit _ _ _ _ (by omega), mask63 _ (k.v6 h), if_pos rfl]
      have := k.tlev h
      have := k.idx_lt h
      rw [Gr.lev_node h] at hd
      have h3 := ih n.t (k.tok h) (by omega)
      unfold Gr.tab
      rw [if_pos (k.tev h)]
      exact h3

theorem Gr.Ok.bit {G : Gr} (k : G.Ok) {r : Nat} (h : G.ok r) : (G.tab r).getLsbD 63 = decide (r % 2 = 0) := by
  have := k.bit63 _ r h (Nat.le_refl _)
  unfold Gr.tab
  split
  · rename_i e; rw [this]; simp [e]
  · rename_i e; rw [BitVec.getLsbD_not, this]; simp [e]

theorem Gr.Ok.written {G : Gr} (k : G.Ok) {r : Nat} (h : G.ok r) : writtenT (G.tab r) = G.sem (r / 2) := by
  unfold writtenT
  rw [k.bit h]
  unfold Gr.tab
  rcases Nat.mod_two_eq_zero_or_one r with e | e
  · simp [e]
  · simp [e]

theorem hangs_iteT (v u : Nat) (g h : Tab) (hv : v < 6) (hu : u < 6) (hne : u ≠ v) (hg : hangs g u = false) (hh : hangs h u = false) : hangs (iteT (mask v) g h) u = false := by
  rw [hangs_false_iff] at hg hh ⊢
  rw [given_iteT _ _ _ _ _ hu, given_iteT _ _ _ _ _ hu, given_mask_ne _ _ _ hv hu hne, given_mask_ne _ _ _ hv hu hne, hg, hh]

theorem hangs_ones (v : Nat) (h : v < 6) : hangs onesT v = false := by
  have : ∀ v : Fin 6, hangs onesT v.1 = false := by decide
  exact this ⟨v, h⟩

theorem Gr.hangs_tab {G : Gr} (r v : Nat) (h : v < 6) : hangs (G.tab r) v = hangs (G.sem (r / 2)) v := by
  unfold Gr.tab; split; rfl; exact hangs_not _ _ h

/-- It hangs on no variable ahead of its level (and on none that is not in the order). -/
theorem Gr.Ok.free {G : Gr} (k : G.Ok) : ∀ (d : Nat) (r v : Nat), G.ok r → G.order.length - G.lev r ≤ d → v < 6 → (G.idx v < G.lev r ∨ v ∉ G.order) → hangs (G.tab r) v = false := by
  intro d
  induction d with
  | zero =>
    intro r v hr hd hv hl
    rw [Gr.hangs_tab _ _ hv]
    rcases hr with h | ⟨n, h⟩
    · rw [h, k.sem0]; exact hangs_ones v hv
    · have := k.idx_lt h
      rw [Gr.lev_node h] at hd
      omega
  | succ d ih =>
    intro r v hr hd hv hl
    rw [Gr.hangs_tab _ _ hv]
    rcases hr with h | ⟨n, h⟩
    · rw [h, k.sem0]; exact hangs_ones v hv
    · rw [k.is h]
      have h1 := k.tlev h
      have h2 := k.elev h
      have h3 := k.idx_lt h
      rw [Gr.lev_node h] at hd hl
      have hne : v ≠ n.v := by
        intro e
        rcases hl with hl | hl
        · rw [e] at hl; omega
        · exact hl (e ▸ k.var h)
      refine hangs_iteT _ _ _ _ (k.v6 h) hv hne (ih n.t v (k.tok h) (by omega) hv ?_) (ih n.e v (k.eok h) (by omega) hv ?_)
      · exact hl.imp (fun e => by omega) id
      · exact hl.imp (fun e => by omega) id

theorem Gr.Ok.ahead {G : Gr} (k : G.Ok) {r v : Nat} (hr : G.ok r) (hv : v < 6) (h : G.idx v < G.lev r ∨ v ∉ G.order) : hangs (G.tab r) v = false := k.free _ r v hr (Nat.le_refl _) hv h

theorem Gr.Ok.tfree {G : Gr} (k : G.Ok) {i : Nat} {n : Nd} (h : G.node i = some n) : hangs (G.tab n.t) n.v = false := k.ahead (k.tok h) (k.v6 h) (.inl (k.tlev h))
theorem Gr.Ok.efree {G : Gr} (k : G.Ok) {i : Nat} {n : Nd} (h : G.node i = some n) : hangs (G.tab n.e) n.v = false := k.ahead (k.eok h) (k.v6 h) (.inl (k.elev h))

theorem Gr.Ok.given_node {G : Gr} (k : G.Ok) {i : Nat} {n : Nd} (h : G.node i = some n) (b : Bool) : given (G.sem i) n.v b = if b then G.tab n.t else G.tab n.e := by
  rw [k.is h, given_join _ _ _ _ (k.v6 h) (k.tfree h) (k.efree h)]

theorem idxOf_inj {l : List Nat} {a b : Nat} (ha : a ∈ l) (h : l.idxOf a = l.idxOf b) : a = b := by
  have hb : l.idxOf b < l.length := h ▸ List.idxOf_lt_length_of_mem ha
  have h1 := List.getElem_idxOf (List.idxOf_lt_length_of_mem ha)
  have h2 := List.getElem_idxOf hb
  rw [← h1, ← h2]
  simp [h]

/-- Two references are the same just if their functions are. -/
theorem Gr.Ok.canon {G : Gr} (k : G.Ok) : ∀ (d : Nat) (r s : Nat), G.ok r → G.ok s → G.order.length - G.lev r ≤ d → G.order.length - G.lev s ≤ d → G.tab r = G.tab s → r = s := by
  intro d
  induction d with
  | zero =>
    intro r s hr hs h1 h2 he
    have hb := congrArg (fun f => f.getLsbD 63) he
    simp only [k.bit hr, k.bit hs] at hb
    have hp : r % 2 = 0 ↔ s % 2 = 0 := by simpa using hb
    have hr0 : r / 2 = 0 := by
      rcases hr with h | ⟨n, h⟩
      · exact h
      · have := k.idx_lt h; rw [Gr.lev_node h] at h1; omega
    have hs0 : s / 2 = 0 := by
      rcases hs with h | ⟨n, h⟩
      · exact h
      · have := k.idx_lt h; rw [Gr.lev_node h] at h2; omega
    omega
  | succ d ih =>
    intro r s hr hs h1 h2 he
    have hb := congrArg (fun f => f.getLsbD 63) he
    simp only [k.bit hr, k.bit hs] at hb
    have hp : r % 2 = 0 ↔ s % 2 = 0 := by simpa using hb
    have hsem : G.sem (r / 2) = G.sem (s / 2) := by
      unfold Gr.tab at he
      by_cases e : r % 2 = 0
      · rw [if_pos e, if_pos (hp.1 e)] at he; exact he
      · rw [if_neg e, if_neg (fun e' => e (hp.2 e'))] at he; exact not_inj_tab he
    have hhang : ∀ {i n}, G.node i = some n → G.order.length - G.idx n.v ≤ d + 1 → hangs (G.sem i) n.v = true := by
      intro i n h hd
      rw [hangs_true_iff, k.given_node h true, k.given_node h false]
      intro e
      have := k.tlev h; have := k.elev h; have := k.idx_lt h
      exact k.ne h (ih n.t n.e (k.tok h) (k.eok h) (by omega) (by omega) (by simpa using e))
    have hdiv : r / 2 = s / 2 := by
      rcases hr with h | ⟨n, h⟩
      · rcases hs with h' | ⟨n', h'⟩
        · omega
        · exfalso
          rw [Gr.lev_node h'] at h2
          have := hhang h' h2
          rw [← hsem, h, k.sem0, hangs_ones _ (k.v6 h')] at this
          cases this
      · rcases hs with h' | ⟨n', h'⟩
        · exfalso
          rw [Gr.lev_node h] at h1
          have := hhang h h1
          rw [hsem, h', k.sem0, hangs_ones _ (k.v6 h)] at this
          cases this
        · rw [Gr.lev_node h] at h1
          rw [Gr.lev_node h'] at h2
          have a1 := hhang h h1
          have a2 := hhang h' h2
          have hv : n.v = n'.v := by
            apply idxOf_inj (k.var h)
            rcases Nat.lt_trichotomy (G.idx n.v) (G.idx n'.v) with hl | hl | hl
            · exfalso
              have := k.ahead (r := s) (v := n.v) (.inr ⟨n', h'⟩) (k.v6 h) (.inl (by rw [Gr.lev_node h']; exact hl))
              rw [Gr.hangs_tab _ _ (k.v6 h), ← hsem, a1] at this
              cases this
            · exact hl
            · exfalso
              have := k.ahead (r := r) (v := n'.v) (.inr ⟨n, h⟩) (k.v6 h') (.inl (by rw [Gr.lev_node h]; exact hl))
              rw [Gr.hangs_tab _ _ (k.v6 h'), hsem, a2] at this
              cases this
          have ht : G.tab n.t = G.tab n'.t := by
            have e1 := k.given_node h true
            have e2 := k.given_node h' true
            rw [hsem, hv] at e1
            rw [e1] at e2
            simpa using e2
          have hee : G.tab n.e = G.tab n'.e := by
            have e1 := k.given_node h false
            have e2 := k.given_node h' false
            rw [hsem, hv] at e1
            rw [e1] at e2
            simpa using e2
          have := k.tlev h; have := k.elev h; have := k.idx_lt h
          have := k.tlev h'; have := k.elev h'; have := k.idx_lt h'
          have q1 := ih n.t n'.t (k.tok h) (k.tok h') (by omega) (by omega) ht
          have q2 := ih n.e n'.e (k.eok h) (k.eok h') (by omega) (by omega) hee
          have : n = n' := by cases n; cases n'; simp_all
          subst this
          exact k.inj h h'
    omega

theorem Gr.Ok.same {G : Gr} (k : G.Ok) {r s : Nat} (hr : G.ok r) (hs : G.ok s) (h : G.tab r = G.tab s) : r = s :=
  k.canon G.order.length r s hr hs (Nat.sub_le _ _) (Nat.sub_le _ _) h

theorem Gr.Ok.hangs_top {G : Gr} (k : G.Ok) {i : Nat} {n : Nd} (h : G.node i = some n) : hangs (G.sem i) n.v = true := by
  rw [hangs_true_iff, k.given_node h true, k.given_node h false]
  intro e
  exact k.ne h (k.same (k.tok h) (k.eok h) (by simpa using e))

theorem Gr.Ok.sem_inj {G : Gr} (k : G.Ok) {i j : Nat} (hi : ∃ n, G.node i = some n) (hj : ∃ n, G.node j = some n) (h : G.sem i = G.sem j) : i = j := by
  have := k.same (r := 2 * i) (s := 2 * j) (.inr (by simpa using hi)) (.inr (by simpa using hj)) (by unfold Gr.tab; simpa using h)
  omega

end Go.Proofs.YtebfmcafmojlaaaGreatDoor

