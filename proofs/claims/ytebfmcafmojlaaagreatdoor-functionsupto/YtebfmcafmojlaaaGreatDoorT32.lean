/-
  copselaw.World: plays: the step is handed on.
-/
import Derived.Test.YtebfmcafmojlaaaGreatDoorT31
namespace Go.Proofs.YtebfmcafmojlaaaGreatDoor
open Go.RowKit
set_option linter.unusedSimpArgs false
set_option linter.unusedVariables false

/-- The World's row of twins, read at k. -/
theorem law_twin {O : Nat → Prop} {w : World} {wb : Nat} {L : LawS} {av tv mv iv nv : Value} (h : LawAt O w wb L av tv mv iv nv) {k : Nat} (hk : k < L.tbs.length) :
    ∃ g cap, av = .slice (some ⟨g, 0, none⟩) L.tbs.length cap ∧ g < w.heap.size ∧ w.cell? ⟨g, k, none⟩ = some (.pointer (some ⟨L.tbs.getD k 0, 0, none⟩)) := by
  rcases h.tbs.1.2 with ⟨rfl, hn⟩ | ⟨g, cap, cur, rfl, hb, hg, hnc, hcm, hcs, htake⟩
  · simp at hn; rw [hn] at hk; simp at hk
  · refine ⟨g, cap, by rw [List.length_map], (h.tbs.lt g rfl), ?_⟩
    have hc := h.tbs.1.cells (g := g) rfl
    have hadd : ∀ j, (⟨g, 0, none⟩ : Addr).add j = ⟨g, j, none⟩ := by intro j; unfold Addr.add; split <;> simp_all
    have h1 := hc k (tptr (L.tbs.getD k 0)) (by rw [List.getElem?_map, List.getD_eq_getElem?_getD, List.getElem?_eq_getElem hk]; rfl)
    rw [hadd] at h1
    exact h1

set_option maxHeartbeats 4000000 in
set_option maxRecDepth 20000 in
theorem plays_works {w : World} {wb : Nat} {L : LawS} {OL K : Nat → Prop} (hl : LawIs OL K w wb L) (htb : L.tbs.length ≤ 4000000) {k : Nat} (hk : k < L.tbs.length) {o : OpS} {fv : Value} (ho : OpOk w o fv) (hp : pickI o.on L.tbs.length = k) (hkd : o.kind = 3 ∨ o.kind = 4 ∨ o.kind = 5) {Q : World → Prop}
    (hq : ∀ w1, Below w.heap.size w w1 → Calls Tryz.prog 64 #[.pointer (some ⟨L.tbs.getD k 0, 0, none⟩), opv o fv] w1 fun e w' => e = .returned (.bool true) ∧ Q w') :
    Calls Tryz.prog 26 #[.pointer (some ⟨wb, 0, none⟩), opv o fv] w fun e w' => e = .returned (.bool true) ∧ Q w' := by
  obtain ⟨⟨av, tv, mv, iv, nv, hLa⟩, hK, hdk⟩ := hl
  obtain ⟨g, cap, rfl, hgl, hgk⟩ := law_twin hLa hk
  have hwl := hLa.lt wb hLa.self
  have hav : w.cell? ⟨wb, 0, none⟩ = some (.slice (some ⟨g, 0, none⟩) L.tbs.length cap) := by rw [cell_of_heap hLa.cells]; rfl
  have hon := ho.on
  obtain ⟨fao, fcap, rfl⟩ := reads_form ho.f
  obtain ⟨kd, on, oa, ov, F, os⟩ := o
  dsimp only at hkd hp hon
  have hpick := fun wq => lawPick on L.tbs.length wq hon.1 hon.2 (by omega) (by omega)
  rw [hp] at hpick
  clear hp hon ho hLa hK hdk
  generalize L.tbs.getD k 0 = tb at hgk hq
  generalize L.tbs.length = n at *
  have hbw := (Below.refl w.heap.size w).alloc (Nat.le_refl _) (.cells #[.int .i64 kd, .int .i64 on, .int .i64 oa, .bool ov, .slice fao F.length fcap, .string os] 66)
  unfold opv at hq ⊢
  dsimp only at hq ⊢
  rcases hkd with rfl | rfl | rfl
  · go_enter Tryz.func26, Tryz.ntmps26
    go_wp2_with fail
    go_region_held (fun w' => w'.cell? ⟨w.heap.size, 1, none⟩ = some (.int .i64 on) ∧ w'.cell? ⟨wb, 0, none⟩ = some (.slice (some ⟨g, 0, none⟩) n cap)) (go_keep) (first | (go_at_call 61; refine (hpick _).mono ?_; rintro e wp ⟨rfl, hqp⟩; replace hqp := hqp.symm; subst hqp))
    go_wp2_with (first | (go_at_call 64; refine (hq _ hbw.drew).mono ?_; rintro e w9 ⟨rfl, hfin⟩))
    go_ret
    exact ⟨rfl, hfin⟩
  · go_enter Tryz.func26, Tryz.ntmps26
    go_wp2_with fail
    go_region_held (fun w' => w'.cell? ⟨w.heap.size, 1, none⟩ = some (.int .i64 on) ∧ w'.cell? ⟨wb, 0, none⟩ = some (.slice (some ⟨g, 0, none⟩) n cap)) (go_keep) (first | (go_at_call 61; refine (hpick _).mono ?_; rintro e wp ⟨rfl, hqp⟩; replace hqp := hqp.symm; subst hqp))
    go_wp2_with (first | (go_at_call 64; refine (hq _ hbw.drew).mono ?_; rintro e w9 ⟨rfl, hfin⟩))
    go_ret
    exact ⟨rfl, hfin⟩
  · go_enter Tryz.func26, Tryz.ntmps26
    go_wp2_with fail
    go_region_held (fun w' => w'.cell? ⟨w.heap.size, 1, none⟩ = some (.int .i64 on) ∧ w'.cell? ⟨wb, 0, none⟩ = some (.slice (some ⟨g, 0, none⟩) n cap)) (go_keep) (first | (go_at_call 61; refine (hpick _).mono ?_; rintro e wp ⟨rfl, hqp⟩; replace hqp := hqp.symm; subst hqp))
    go_wp2_with (first | (go_at_call 64; refine (hq _ hbw.drew).mono ?_; rintro e w9 ⟨rfl, hfin⟩))
    go_ret
    exact ⟨rfl, hfin⟩

set_option maxHeartbeats 4000000 in
set_option maxRecDepth 20000 in
theorem plays_asks {w : World} {wb : Nat} {L : LawS} {OL K : Nat → Prop} (hl : LawIs OL K w wb L) (htb : L.tbs.length ≤ 4000000) {k : Nat} (hk : k < L.tbs.length) {o : OpS} {fv : Value} (ho : OpOk w o fv) (hp : pickI o.on L.tbs.length = k) (hkd : o.kind = 6 ∨ o.kind = 7 ∨ o.kind = 8) {Q : World → Prop}
    (hq : ∀ w1, Below w.heap.size w w1 → Calls Tryz.prog 65 #[.pointer (some ⟨wb, 0, none⟩), .pointer (some ⟨L.tbs.getD k 0, 0, none⟩), opv o fv] w1 fun e w' => e = .returned (.bool true) ∧ Q w') :
    Calls Tryz.prog 26 #[.pointer (some ⟨wb, 0, none⟩), opv o fv] w fun e w' => e = .returned (.bool true) ∧ Q w' := by
  obtain ⟨⟨av, tv, mv, iv, nv, hLa⟩, hK, hdk⟩ := hl
  obtain ⟨g, cap, rfl, hgl, hgk⟩ := law_twin hLa hk
  have hwl := hLa.lt wb hLa.self
  have hav : w.cell? ⟨wb, 0, none⟩ = some (.slice (some ⟨g, 0, none⟩) L.tbs.length cap) := by rw [cell_of_heap hLa.cells]; rfl
  have hon := ho.on
  obtain ⟨fao, fcap, rfl⟩ := reads_form ho.f
  obtain ⟨kd, on, oa, ov, F, os⟩ := o
  dsimp only at hkd hp hon
  have hpick := fun wq => lawPick on L.tbs.length wq hon.1 hon.2 (by omega) (by omega)
  rw [hp] at hpick
  clear hp hon ho hLa hK hdk
  generalize L.tbs.getD k 0 = tb at hgk hq
  generalize L.tbs.length = n at *
  have hbw := (Below.refl w.heap.size w).alloc (Nat.le_refl _) (.cells #[.int .i64 kd, .int .i64 on, .int .i64 oa, .bool ov, .slice fao F.length fcap, .string os] 66)
  unfold opv at hq ⊢
  dsimp only at hq ⊢
  rcases hkd with rfl | rfl | rfl
  · go_enter Tryz.func26, Tryz.ntmps26
    go_wp2_with fail
    go_region_held (fun w' => w'.cell? ⟨w.heap.size, 1, none⟩ = some (.int .i64 on) ∧ w'.cell? ⟨wb, 0, none⟩ = some (.slice (some ⟨g, 0, none⟩) n cap)) (go_keep) (first | (go_at_call 61; refine (hpick _).mono ?_; rintro e wp ⟨rfl, hqp⟩; replace hqp := hqp.symm; subst hqp))
    go_wp2_with (first | (go_at_call 65; refine (hq _ hbw.drew).mono ?_; rintro e w9 ⟨rfl, hfin⟩))
    go_ret
    exact ⟨rfl, hfin⟩
  · go_enter Tryz.func26, Tryz.ntmps26
    go_wp2_with fail
    go_region_held (fun w' => w'.cell? ⟨w.heap.size, 1, none⟩ = some (.int .i64 on) ∧ w'.cell? ⟨wb, 0, none⟩ = some (.slice (some ⟨g, 0, none⟩) n cap)) (go_keep) (first | (go_at_call 61; refine (hpick _).mono ?_; rintro e wp ⟨rfl, hqp⟩; replace hqp := hqp.symm; subst hqp))
    go_wp2_with (first | (go_at_call 65; refine (hq _ hbw.drew).mono ?_; rintro e w9 ⟨rfl, hfin⟩))
    go_ret
    exact ⟨rfl, hfin⟩
  · go_enter Tryz.func26, Tryz.ntmps26
    go_wp2_with fail
    go_region_held (fun w' => w'.cell? ⟨w.heap.size, 1, none⟩ = some (.int .i64 on) ∧ w'.cell? ⟨wb, 0, none⟩ = some (.slice (some ⟨g, 0, none⟩) n cap)) (go_keep) (first | (go_at_call 61; refine (hpick _).mono ?_; rintro e wp ⟨rfl, hqp⟩; replace hqp := hqp.symm; subst hqp))
    go_wp2_with (first | (go_at_call 65; refine (hq _ hbw.drew).mono ?_; rintro e w9 ⟨rfl, hfin⟩))
    go_ret
    exact ⟨rfl, hfin⟩

set_option maxHeartbeats 4000000 in
set_option maxRecDepth 20000 in
theorem plays_const {w : World} {wb : Nat} {L : LawS} {OL K : Nat → Prop} (hl : LawIs OL K w wb L) (htb : L.tbs.length ≤ 4000000) {k : Nat} (hk : k < L.tbs.length) {o : OpS} {fv : Value} (ho : OpOk w o fv) (hp : pickI o.on L.tbs.length = k) (hkd : o.kind = 9) {Q : World → Prop}
    (hq : ∀ w1, Below w.heap.size w w1 → Calls Tryz.prog 66 #[.pointer (some ⟨wb, 0, none⟩), .pointer (some ⟨L.tbs.getD k 0, 0, none⟩), opv o fv] w1 fun e w' => e = .returned (.bool true) ∧ Q w') :
    Calls Tryz.prog 26 #[.pointer (some ⟨wb, 0, none⟩), opv o fv] w fun e w' => e = .returned (.bool true) ∧ Q w' := by
  obtain ⟨⟨av, tv, mv, iv, nv, hLa⟩, hK, hdk⟩ := hl
  obtain ⟨g, cap, rfl, hgl, hgk⟩ := law_twin hLa hk
  have hwl := hLa.lt wb hLa.self
  have hav : w.cell? ⟨wb, 0, none⟩ = some (.slice (some ⟨g, 0, none⟩) L.tbs.length cap) := by rw [cell_of_heap hLa.cells]; rfl
  have hon := ho.on
  obtain ⟨fao, fcap, rfl⟩ := reads_form ho.f
  obtain ⟨kd, on, oa, ov, F, os⟩ := o
  dsimp only at hkd hp hon
  have hpick := fun wq => lawPick on L.tbs.length wq hon.1 hon.2 (by omega) (by omega)
  rw [hp] at hpick
  clear hp hon ho hLa hK hdk
  generalize L.tbs.getD k 0 = tb at hgk hq
  generalize L.tbs.length = n at *
  have hbw := (Below.refl w.heap.size w).alloc (Nat.le_refl _) (.cells #[.int .i64 kd, .int .i64 on, .int .i64 oa, .bool ov, .slice fao F.length fcap, .string os] 66)
  unfold opv at hq ⊢
  dsimp only at hq ⊢
  subst hkd
  go_enter Tryz.func26, Tryz.ntmps26
  go_wp2_with fail
  go_region_held (fun w' => w'.cell? ⟨w.heap.size, 1, none⟩ = some (.int .i64 on) ∧ w'.cell? ⟨wb, 0, none⟩ = some (.slice (some ⟨g, 0, none⟩) n cap)) (go_keep) (first | (go_at_call 61; refine (hpick _).mono ?_; rintro e wp ⟨rfl, hqp⟩; replace hqp := hqp.symm; subst hqp))
  go_wp2_with (first | (go_at_call 66; refine (hq _ hbw.drew).mono ?_; rintro e w9 ⟨rfl, hfin⟩))
  go_ret
  exact ⟨rfl, hfin⟩

set_option maxHeartbeats 4000000 in
set_option maxRecDepth 20000 in
theorem plays_begin {w : World} {wb : Nat} {o : OpS} {fv : Value} (ho : OpOk w o fv) (hkd : o.kind = 1) {Q : World → Prop}
    (hq : ∀ w1, Below w.heap.size w w1 → Calls Tryz.prog 60 #[.pointer (some ⟨wb, 0, none⟩), opv o fv] w1 fun e w' => e = .returned (.bool true) ∧ Q w') :
    Calls Tryz.prog 26 #[.pointer (some ⟨wb, 0, none⟩), opv o fv] w fun e w' => e = .returned (.bool true) ∧ Q w' := by
  obtain ⟨fao, fcap, rfl⟩ := reads_form ho.f
  obtain ⟨kd, on, oa, ov, F, os⟩ := o
  dsimp only at hkd
  subst hkd
  clear ho
  have hbw := (Below.refl w.heap.size w).alloc (Nat.le_refl _) (.cells #[.int .i64 1, .int .i64 on, .int .i64 oa, .bool ov, .slice fao F.length fcap, .string os] 66)
  unfold opv at hq ⊢
  dsimp only at hq ⊢
  go_enter Tryz.func26, Tryz.ntmps26
  go_wp2_with (first | (go_at_call 60; refine (hq _ hbw).mono ?_; rintro e w9 ⟨rfl, hfin⟩))
  go_ret
  exact ⟨rfl, hfin⟩

set_option maxHeartbeats 4000000 in
set_option maxRecDepth 20000 in
theorem plays_none {w : World} {wb : Nat} {L : LawS} {OL K : Nat → Prop} (hl : LawIs OL K w wb L) (h0 : L.tbs = []) {o : OpS} {fv : Value} (ho : OpOk w o fv) (hkd : o.kind ≠ 1) :
    Calls Tryz.prog 26 #[.pointer (some ⟨wb, 0, none⟩), opv o fv] w fun e w' => e = .returned (.bool true) ∧ Below w.heap.size w w' := by
  obtain ⟨⟨av, tv, mv, iv, nv, hLa⟩, hK, hdk⟩ := hl
  obtain ⟨ao, cap, rfl⟩ := owns_form hLa.tbs.1
  have hwl := hLa.lt wb hLa.self
  have hav : w.cell? ⟨wb, 0, none⟩ = some (.slice ao 0 cap) := by rw [cell_of_heap hLa.cells, h0]; rfl
  obtain ⟨fao, fcap, rfl⟩ := reads_form ho.f
  obtain ⟨kd, on, oa, ov, F, os⟩ := o
  dsimp only at hkd
  have e1 : (kd == 1) = false := by simpa using hkd
  clear ho hLa hK hdk hkd h0
  have hbw := (Below.refl w.heap.size w).alloc (Nat.le_refl _) (.cells #[.int .i64 kd, .int .i64 on, .int .i64 oa, .bool ov, .slice fao F.length fcap, .string os] 66)
  unfold opv
  dsimp only
  go_enter Tryz.func26, Tryz.ntmps26
  go_wp2_with fail
  go_ret
  exact ⟨rfl, hbw⟩

set_option maxHeartbeats 4000000 in
set_option maxRecDepth 20000 in
theorem plays_other {w : World} {wb : Nat} {L : LawS} {OL K : Nat → Prop} (hl : LawIs OL K w wb L) (htb : L.tbs.length ≤ 4000000) {k : Nat} (hk : k < L.tbs.length) {o : OpS} {fv : Value} (ho : OpOk w o fv) (hp : pickI o.on L.tbs.length = k) (hkd : o.kind ≤ 0) :
    Calls Tryz.prog 26 #[.pointer (some ⟨wb, 0, none⟩), opv o fv] w fun e w' => e = .returned (.bool true) ∧ Below w.heap.size w w' := by
  obtain ⟨⟨av, tv, mv, iv, nv, hLa⟩, hK, hdk⟩ := hl
  obtain ⟨g, cap, rfl, hgl, hgk⟩ := law_twin hLa hk
  have hwl := hLa.lt wb hLa.self
  have hav : w.cell? ⟨wb, 0, none⟩ = some (.slice (some ⟨g, 0, none⟩) L.tbs.length cap) := by rw [cell_of_heap hLa.cells]; rfl
  have hon := ho.on
  obtain ⟨fao, fcap, rfl⟩ := reads_form ho.f
  obtain ⟨kd, on, oa, ov, F, os⟩ := o
  dsimp only at hkd hp hon
  have hpick := fun wq => lawPick on L.tbs.length wq hon.1 hon.2 (by omega) (by omega)
  rw [hp] at hpick
  clear hp hon ho hLa hK hdk
  generalize L.tbs.getD k 0 = tb at hgk
  generalize L.tbs.length = n at *
  have hbw := (Below.refl w.heap.size w).alloc (Nat.le_refl _) (.cells #[.int .i64 kd, .int .i64 on, .int .i64 oa, .bool ov, .slice fao F.length fcap, .string os] 66)
  have e1 : (kd == 1) = false := by simp; omega
  have e2 : (kd == 2) = false := by simp; omega
  have e3 : (kd == 3) = false := by simp; omega
  have e4 : (kd == 4) = false := by simp; omega
  have e5 : (kd == 5) = false := by simp; omega
  have e6 : (kd == 6) = false := by simp; omega
  have e7 : (kd == 7) = false := by simp; omega
  have e8 : (kd == 8) = false := by simp; omega
  have e9 : (kd == 9) = false := by simp; omega
  have e10 : (kd == 10) = false := by simp; omega
  have e11 : (kd == 11) = false := by simp; omega
  have e12 : (kd == 12) = false := by simp; omega
  have e13 : (kd == 13) = false := by simp; omega
  have e14 : (kd == 14) = false := by simp; omega
  have e15 : (kd == 15) = false := by simp; omega
  have e16 : (kd == 16) = false := by simp; omega
  have e17 : (kd == 17) = false := by simp; omega
  clear hkd
  unfold opv
  dsimp only
  go_enter Tryz.func26, Tryz.ntmps26
  go_wp2_with fail
  go_region_held (fun w' => w'.cell? ⟨w.heap.size, 1, none⟩ = some (.int .i64 on) ∧ w'.cell? ⟨wb, 0, none⟩ = some (.slice (some ⟨g, 0, none⟩) n cap)) (go_keep) (first | (go_at_call 61; refine (hpick _).mono ?_; rintro e wp ⟨rfl, hqp⟩; replace hqp := hqp.symm; subst hqp))
  go_wp2_with fail
  go_ret
  exact ⟨rfl, hbw.drew⟩

end Go.Proofs.YtebfmcafmojlaaaGreatDoor

/-
  copselaw.World: plays: Var.
-/
namespace Go.Proofs.YtebfmcafmojlaaaGreatDoor
open Go.RowKit
set_option linter.unusedSimpArgs false
set_option linter.unusedVariables false

theorem varC_eq {cF cT N : Nat} {C : CopS} {S : RefS} {l : List (Nat × Tab)} (ok : TwOk cF cT N C S l) (name : ByteArray) (hd : Nat) : varC C name hd = { C with names := S.names ++ [name], order := newOrder S, T := updT C.T hd (mask S.names.length) } := by
  unfold varC newOrder
  rw [← ok.names, ← ok.order]

theorem new_order {cF cT N : Nat} {C : CopS} {S : RefS} {l : List (Nat × Tab)} (ok : TwOk cF cT N C S l) (name : ByteArray) (h : S.names.length < 6) : (newOrder S).length ≤ 6 ∧ (∀ x ∈ newOrder S, x < 6) ∧ (newOrder S).length = (S.names ++ [name]).length ∧ ∀ x ∈ newOrder S, x < (S.names ++ [name]).length := by
  have h1 := ok.on
  have h2 := ok.ord
  unfold newOrder
  simp only [List.length_append, List.length_cons, List.length_nil, List.mem_append, List.mem_cons, List.not_mem_nil, or_false]
  refine ⟨by omega, ?_, by omega, ?_⟩
  · rintro x (e | e)
    · have := h2 x e; omega
    · omega
  · rintro x (e | e)
    · have := h2 x e; omega
    · omega

set_option maxHeartbeats 4000000 in
set_option maxRecDepth 20000 in
theorem plays_var_same {I : (Nat → Prop) → World → Nat → CopS → Prop} {cF cT : Nat} (sp : CopseSpec I cF cT) {w : World} {tb x r N : Nat} {C : CopS} {S : RefS} {l : List (Nat × Tab)} {av0 : Value} {OT OX OR : Nat → Prop} (st : TwSt I w tb x r C S l av0 OT OX OR) (ok : TwOk cF cT N C S l) (hN : N ≤ 3000000)
    {wb : Nat} {L : LawS} {OL K : Nat → Prop} (hl : LawIs OL K w wb L) (htb : L.tbs.length ≤ 4000000) {k : Nat} (hk : k < L.tbs.length) (ht : L.tbs.getD k 0 = tb) {o : OpS} {fv : Value} (ho : OpOk w o fv) (hp : pickI o.on L.tbs.length = k) (hkd : o.kind = 2) {ez : Int} (he : ez ≠ 0) (hvar : ∀ wq, I OX wq x C → Calls Tryz.prog 19 #[.pointer (some ⟨x, 0, none⟩), .string o.s] wq fun e w' => e = .returned (.tuple #[.int .i64 0, .int .i64 ez]) ∧ CopStep I OX wq x w' C) (href : ∀ wq, RefIs OR wq r S → Calls Tryz.prog 62 #[.pointer (some ⟨r, 0, none⟩), .string o.s] wq fun e w' => e = .returned (.tuple #[.int .u64 0, .int .i64 ez]) ∧ RefStep OR wq r w' S) :
    Calls Tryz.prog 26 #[.pointer (some ⟨wb, 0, none⟩), opv o fv] w fun e w' => e = .returned (.bool true) ∧ TwPost I cF cT w tb (N + 1) (Un OT OX OR) w' := by
  obtain ⟨⟨av, tv, mv, iv, nv, hLa⟩, hK, hdk⟩ := hl
  obtain ⟨g, cap, rfl, hgl, hgk⟩ := law_twin hLa hk
  rw [ht] at hgk
  have hwl := hLa.lt wb hLa.self
  have hav : w.cell? ⟨wb, 0, none⟩ = some (.slice (some ⟨g, 0, none⟩) L.tbs.length cap) := by rw [cell_of_heap hLa.cells]; rfl
  have hon := ho.on
  have hs := ho.s
  obtain ⟨fao, fcap, rfl⟩ := reads_form ho.f
  obtain ⟨kd, on, oa, ov, F, os⟩ := o
  dsimp only at hkd hp hon hs hvar href ⊢
  subst hkd
  have hpick := fun wq => lawPick on L.tbs.length wq hon.1 hon.2 (by omega) (by omega)
  rw [hp] at hpick
  clear hp hon ho hLa hK hdk ht
  generalize L.tbs.length = n at *
  have htl := st.t.lt tb st.t.self
  have hX : w.cell? ⟨tb, 0, none⟩ = some (.pointer (some ⟨x, 0, none⟩)) := by rw [cell_of_heap st.t.cells]; rfl
  have hRp : w.cell? ⟨tb, 1, none⟩ = some (.pointer (some ⟨r, 0, none⟩)) := by rw [cell_of_heap st.t.cells]; rfl
  have hbw := (Below.refl w.heap.size w).alloc (Nat.le_refl _) (.cells #[.int .i64 2, .int .i64 on, .int .i64 oa, .bool ov, .slice fao F.length fcap, .string os] 66)
  have hbl := Below.refl (w.heap.size + 1) (w.alloc (.cells #[.int .i64 2, .int .i64 on, .int .i64 oa, .bool ov, .slice fao F.length fcap, .string os] 66))
  have hsz : w.heap.size + 1 ≤ (w.alloc (.cells #[.int .i64 2, .int .i64 on, .int .i64 oa, .bool ov, .slice fao F.length fcap, .string os] 66)).heap.size := by simp
  unfold opv
  dsimp only
  go_enter Tryz.func26, Tryz.ntmps26
  go_wp2_with fail
  go_region_held (fun w' => w'.cell? ⟨w.heap.size, 1, none⟩ = some (.int .i64 on) ∧ w'.cell? ⟨wb, 0, none⟩ = some (.slice (some ⟨g, 0, none⟩) n cap)) (go_keep) (first | (go_at_call 61; refine (hpick _).mono ?_; rintro e wp ⟨rfl, hqp⟩; replace hqp := hqp.symm; subst hqp))
  go_wp2_with fail
  go_region_held (fun w' => w'.cell? ⟨tb, 0, none⟩ = some (.pointer (some ⟨x, 0, none⟩)) ∧ w'.cell? ⟨w.heap.size, 5, none⟩ = some (.string os)) (go_keep) (first | (go_at_call 19; refine (hvar _ (st.below sp hbw.drew.drew).c).mono ?_; rintro e w2 ⟨rfl, hsc⟩; obtain ⟨OX2, st2, ho2, hg2⟩ := (st.below sp hbw.drew.drew).stepC sp hsc; have hx2 : w2.cell? ⟨tb, 0, none⟩ = some (.pointer (some ⟨x, 0, none⟩)) := (by rw [cell_of_heap st2.t.cells]; rfl); have hr2 : w2.cell? ⟨tb, 1, none⟩ = some (.pointer (some ⟨r, 0, none⟩)) := (by rw [cell_of_heap st2.t.cells]; rfl); obtain ⟨d0, d1, d2, d3, d4, d5⟩ := box_only sp st.c hbl.drew.drew hsz ho2))
  go_wp2_with fail
  go_region_held (fun w' => w'.cell? ⟨tb, 1, none⟩ = some (.pointer (some ⟨r, 0, none⟩)) ∧ w'.cell? ⟨w.heap.size, 5, none⟩ = some (.string os)) (go_keep) (first | (go_at_call 62; refine (href _ st2.s.drew).mono ?_; rintro e w3 ⟨rfl, hsr⟩; obtain ⟨OR3, st3, ho3, hg3⟩ := st2.stepS sp hsr.undrew; have hr3 : w3.cell? ⟨tb, 1, none⟩ = some (.pointer (some ⟨r, 0, none⟩)) := (by rw [cell_of_heap st3.t.cells]; rfl); have g5 := (ref_cell st.s.lt (Nat.lt_of_lt_of_le (Nat.lt_of_succ_le hsz) ho2.size) hsr 5).trans d5))
  go_wp2_with (first
    | (go_at_call 63; refine (lawAnswer_no _ _ ez he _).mono ?_; rintro e w9 ⟨rfl, hq⟩; replace hq := hq.symm; subst hq))
  go_ret
  exact ⟨rfl, tw_same2 sp st ok hbw.drew.drew hsc hsr.undrew⟩

set_option maxHeartbeats 4000000 in
set_option maxRecDepth 20000 in
theorem plays_var_room {I : (Nat → Prop) → World → Nat → CopS → Prop} {cF cT : Nat} (sp : CopseSpec I cF cT) {w : World} {tb x r N : Nat} {C : CopS} {S : RefS} {l : List (Nat × Tab)} {av0 : Value} {OT OX OR : Nat → Prop} (st : TwSt I w tb x r C S l av0 OT OX OR) (ok : TwOk cF cT N C S l) (hN : N ≤ 3000000)
    {wb : Nat} {L : LawS} {OL K : Nat → Prop} (hl : LawIs OL K w wb L) (htb : L.tbs.length ≤ 4000000) {k : Nat} (hk : k < L.tbs.length) (ht : L.tbs.getD k 0 = tb) {o : OpS} {fv : Value} (ho : OpOk w o fv) (hp : pickI o.on L.tbs.length = k) (hkd : o.kind = 2) (h1 : isNameB o.s = true) (h2 : namedI S.names o.s = -1) (h3 : S.names.length < 6) (h4 : ¬ S.cap < ((allT (newOrder S) (newVarT S)).length : Int)) :
    Calls Tryz.prog 26 #[.pointer (some ⟨wb, 0, none⟩), opv o fv] w fun e w' => e = .returned (.bool true) ∧ TwPostX I cF cT w tb (N + 1) (Un OT OX OR) { S with names := S.names ++ [o.s], order := newOrder S, live := newVarT S } (toldF (l.map Prod.snd) (mask S.names.length)) w' := by
  obtain ⟨⟨av, tv, mv, iv, nv, hLa⟩, hK, hdk⟩ := hl
  obtain ⟨g, cap, rfl, hgl, hgk⟩ := law_twin hLa hk
  rw [ht] at hgk
  have hwl := hLa.lt wb hLa.self
  have hav : w.cell? ⟨wb, 0, none⟩ = some (.slice (some ⟨g, 0, none⟩) L.tbs.length cap) := by rw [cell_of_heap hLa.cells]; rfl
  have hon := ho.on
  have hs := ho.s
  obtain ⟨fao, fcap, rfl⟩ := reads_form ho.f
  obtain ⟨kd, on, oa, ov, F, os⟩ := o
  dsimp only at hkd hp hon hs h1 h2 ⊢
  subst hkd
  have hpick := fun wq => lawPick on L.tbs.length wq hon.1 hon.2 (by omega) (by omega)
  rw [hp] at hpick
  have hno := new_order ok os h3
  have hcn := ok.names
  have hco := ok.order
  have hcc := ok.cap
  have hfv : ¬ fullV C S.live := by unfold fullV; rw [hcc, hco, hcn]; exact h4
  have hvar := fun wq (hc : I OX wq x C) => post_room (sp.var hc S.live ok.lists os hs h1 (by rw [hcn]; exact h2) (by rw [hcn]; exact h3)) hfv
  rw [hcn] at hvar
  have hvr : varR S os = (mask S.names.length, 0, { S with names := S.names ++ [os], order := newOrder S, live := newVarT S }) := by
    unfold varR
    rw [if_neg (by rw [h1, h2]; simp), if_neg (by omega), if_neg h4]
  have href := fun wq (hq : RefIs OR wq r S) => refVarM hq (ok.ref hN) os hs
  rw [hvr] at href
  simp only [tabv] at href
  clear hvr hfv hcn hco hcc h1 h2 h3 h4
  clear hp hon ho hLa hK hdk ht
  generalize L.tbs.length = n at *
  have htl := st.t.lt tb st.t.self
  have hX : w.cell? ⟨tb, 0, none⟩ = some (.pointer (some ⟨x, 0, none⟩)) := by rw [cell_of_heap st.t.cells]; rfl
  have hRp : w.cell? ⟨tb, 1, none⟩ = some (.pointer (some ⟨r, 0, none⟩)) := by rw [cell_of_heap st.t.cells]; rfl
  have hbw := (Below.refl w.heap.size w).alloc (Nat.le_refl _) (.cells #[.int .i64 2, .int .i64 on, .int .i64 oa, .bool ov, .slice fao F.length fcap, .string os] 66)
  have hbl := Below.refl (w.heap.size + 1) (w.alloc (.cells #[.int .i64 2, .int .i64 on, .int .i64 oa, .bool ov, .slice fao F.length fcap, .string os] 66))
  have hsz : w.heap.size + 1 ≤ (w.alloc (.cells #[.int .i64 2, .int .i64 on, .int .i64 oa, .bool ov, .slice fao F.length fcap, .string os] 66)).heap.size := by simp
  unfold opv
  dsimp only
  go_enter Tryz.func26, Tryz.ntmps26
  go_wp2_with fail
  go_region_held (fun w' => w'.cell? ⟨w.heap.size, 1, none⟩ = some (.int .i64 on) ∧ w'.cell? ⟨wb, 0, none⟩ = some (.slice (some ⟨g, 0, none⟩) n cap)) (go_keep) (first | (go_at_call 61; refine (hpick _).mono ?_; rintro e wp ⟨rfl, hqp⟩; replace hqp := hqp.symm; subst hqp))
  go_wp2_with fail
  go_region_held (fun w' => w'.cell? ⟨tb, 0, none⟩ = some (.pointer (some ⟨x, 0, none⟩)) ∧ w'.cell? ⟨w.heap.size, 5, none⟩ = some (.string os)) (go_keep) (first | (go_at_call 19; refine (hvar _ (st.below sp hbw.drew.drew).c).mono ?_; rintro e w2 ⟨hd2, rfl, hm, hfr, hsc⟩; obtain ⟨OX2, st2, ho2, hg2⟩ := (st.below sp hbw.drew.drew).stepC sp hsc; have hx2 : w2.cell? ⟨tb, 0, none⟩ = some (.pointer (some ⟨x, 0, none⟩)) := (by rw [cell_of_heap st2.t.cells]; rfl); have hr2 : w2.cell? ⟨tb, 1, none⟩ = some (.pointer (some ⟨r, 0, none⟩)) := (by rw [cell_of_heap st2.t.cells]; rfl); obtain ⟨d0, d1, d2, d3, d4, d5⟩ := box_only sp st.c hbl.drew.drew hsz ho2))
  go_wp2_with fail
  go_region_held (fun w' => w'.cell? ⟨tb, 1, none⟩ = some (.pointer (some ⟨r, 0, none⟩)) ∧ w'.cell? ⟨w.heap.size, 5, none⟩ = some (.string os)) (go_keep) (first | (go_at_call 62; refine (href _ st2.s.drew).mono ?_; rintro e w3 ⟨rfl, hsr⟩; obtain ⟨OR3, st3, ho3, hg3⟩ := st2.stepS sp hsr.undrew; have hr3 : w3.cell? ⟨tb, 1, none⟩ = some (.pointer (some ⟨r, 0, none⟩)) := (by rw [cell_of_heap st3.t.cells]; rfl); have g5 := (ref_cell st.s.lt (Nat.lt_of_lt_of_le (Nat.lt_of_succ_le hsz) ho2.size) hsr 5).trans d5; have hsc2 := hsc; rw [varC_eq ok] at hsc2; obtain ⟨OX', OR', mid⟩ := mid_of sp st ok hN hbw.drew.drew hm hfr _ _ hno.1 hno.2.1 hno.2.2.1 hno.2.2.2 hsc2 hsr.undrew))
  go_wp2_with (first
    | (go_at_call 63; refine (lawAnswer_yes mid.st.t mid.l2 mid.ll _ mid.hm _ mid.alike mid.small).mono ?_; rintro e w9 ⟨rfl, hts⟩))
  go_ret
  exact ⟨rfl, mid.postx sp hts⟩

/-- Var, whatever it answers. -/
theorem plays_var {I : (Nat → Prop) → World → Nat → CopS → Prop} {cF cT : Nat} (sp : CopseSpec I cF cT) {w : World} {O : Nat → Prop} {tb N : Nat} (h : TwIs I cF cT O w tb N) (hN : N ≤ 3000000)
    {wb : Nat} {L : LawS} {OL K : Nat → Prop} (hl : LawIs OL K w wb L) (htb : L.tbs.length ≤ 4000000) {k : Nat} (hk : k < L.tbs.length) (ht : L.tbs.getD k 0 = tb) {o : OpS} {fv : Value} (ho : OpOk w o fv) (hp : pickI o.on L.tbs.length = k) (hkd : o.kind = 2) :
    Calls Tryz.prog 26 #[.pointer (some ⟨wb, 0, none⟩), opv o fv] w fun e w' => e = .returned (.bool true) ∧ TwPost I cF cT w tb (N + 1) O w' := by
  obtain ⟨x, r, C, S, l, av, OT, OX, OR, st, ok, hO⟩ := h
  rw [un_eq hO]
  have href := fun wq (hq : RefIs OR wq r S) => refVarM hq (ok.ref hN) o.s ho.s
  have hcn := ok.names
  by_cases h1 : isNameB o.s = false ∨ 0 ≤ namedI S.names o.s
  · have e : varR S o.s = (0, 2, S) := by unfold varR; rw [if_pos h1]
    rw [e] at href
    exact plays_var_same sp st ok hN hl htb hk ht ho hp hkd (ez := 2) (by decide) (fun wq hc => sp.var_no hc o.s ho.s (by rw [hcn]; exact h1)) href
  · have h1' : isNameB o.s = true := by
      cases hn : isNameB o.s
      · exact absurd (.inl hn) h1
      · rfl
    have h2 : namedI S.names o.s = -1 := (namedI_cases S.names o.s).resolve_right (fun e => h1 (.inr e))
    have hn6 := ok.ol
    have hon := ok.on
    by_cases h3 : S.names.length = 6
    · have e : varR S o.s = (0, 3, S) := by unfold varR; rw [if_neg h1, if_pos h3]
      rw [e] at href
      exact plays_var_same sp st ok hN hl htb hk ht ho hp hkd (ez := 3) (by decide) (fun wq hc => sp.var_many hc o.s ho.s h1' (by rw [hcn]; exact h2) (by rw [hcn]; exact h3)) href
    · have h3' : S.names.length < 6 := by omega
      by_cases h4 : S.cap < ((allT (newOrder S) (newVarT S)).length : Int)
      · have e : varR S o.s = (0, 5, S) := by unfold varR; rw [if_neg h1, if_neg h3, if_pos h4]
        rw [e] at href
        have hfv : fullV C S.live := by unfold fullV; rw [ok.cap, ok.order, hcn]; exact h4
        exact plays_var_same sp st ok hN hl htb hk ht ho hp hkd (ez := 5) (by decide) (fun wq hc => post_full (sp.var hc S.live ok.lists o.s ho.s h1' (by rw [hcn]; exact h2) (by rw [hcn]; exact h3')) hfv) href
      · exact (plays_var_room sp st ok hN hl htb hk ht ho hp hkd h1' h2 h3' h4).mono (fun e w' h => ⟨h.1, h.2.post⟩)

end Go.Proofs.YtebfmcafmojlaaaGreatDoor

/-
  copselaw.World: plays: every step up to Const.
-/
namespace Go.Proofs.YtebfmcafmojlaaaGreatDoor
open Go.RowKit
set_option linter.unusedSimpArgs false
set_option linter.unusedVariables false

theorem OpOk.below {w w' : World} {o : OpS} {fv : Value} (h : OpOk w o fv) (hb : Below w.heap.size w w') : OpOk w' o fv :=
  ⟨(h.f.below hb (Nat.le_refl _)).mono hb.size, h.fl, h.z, h.s, h.a, h.on, h.k⟩

theorem pick_nat (c : Int) {n : Nat} (hn : 0 < n) : ∃ k : Nat, pickI c n = k ∧ k < n := by
  have h := pickI_lt c n (by omega)
  exact ⟨(pickI c n).toNat, by omega, by omega⟩

def PlayPost (I : (Nat → Prop) → World → Nat → CopS → Prop) (cF cT : Nat) (G : Nat → Prop) (w : World) (wb : Nat) (tl : Nat) (Ns : Nat → Nat) (M : Nat) (w' : World) : Prop :=
  ∃ L' OL' K' Os', AllIs I cF cT G w' wb L' OL' K' Os' Ns M ∧ L'.tbs.length ≤ tl ∧ Only G w w'

theorem lawPlays {I : (Nat → Prop) → World → Nat → CopS → Prop} {cF cT : Nat} (sp : CopseSpec I cF cT) {G : Nat → Prop} {w : World} {wb : Nat} {L : LawS} {OL K : Nat → Prop} {Os : Nat → Nat → Prop} {N M : Nat} (h : AllIs I cF cT G w wb L OL K Os (fun _ => N) M) (hN : N ≤ 3000000) (hM : M ≤ 20000000) (htb : L.tbs.length ≤ 4000000) {o : OpS} {fv : Value} (ho : OpOk w o fv) (hkd : o.kind ≤ 9) :
    Calls Tryz.prog 26 #[.pointer (some ⟨wb, 0, none⟩), opv o fv] w fun e w' => e = .returned (.bool true) ∧ PlayPost I cF cT G w wb (L.tbs.length + 1) (fun _ => N + 1) (M + 1) w' := by
  have hup : ∀ k j, setN (fun _ => N) k (N + 1) j ≤ N + 1 := by
    intro k j
    unfold setN
    split
    · exact Nat.le_refl _
    · exact Nat.le_succ N
  by_cases h1 : o.kind = 1
  · refine plays_begin ho h1 (fun w1 hb => ?_)
    have h' := h.below sp hb
    have ho' := ho.below hb
    have hpost : ∀ e w', (e = Ending.returned (.bool true) ∧ BeginPost I cF cT w1 wb L OL K o.a w') → (e = Ending.returned (.bool true) ∧ PlayPost I cF cT G w wb (L.tbs.length + 1) (fun _ => N + 1) (M + 1) w') := by
      rintro e w' ⟨he, hp⟩
      obtain ⟨L', OL', Os', ha, hl, hbb⟩ := h'.begun sp hp
      exact ⟨he, L', OL', K, Os', ha.mono (fun _ => Nat.le_succ _) (Nat.le_succ _), hl, (only_of_below hb G).trans hbb (Grows.refl _ _)⟩
    by_cases hc : 1 ≤ o.a ∧ o.a ≤ 300
    · exact (begin_yes sp o fv h'.law htb ho' hc.1 hc.2).mono hpost
    · exact (begin_no sp o fv L OL K ho' (by omega)).mono hpost
  · by_cases h0 : L.tbs = []
    · refine (plays_none h.law h0 ho h1).mono ?_
      rintro e w' ⟨he, hb⟩
      exact ⟨he, L, OL, K, Os, (h.below sp hb).mono (fun _ => Nat.le_succ _) (Nat.le_succ _), Nat.le_succ _, only_of_below hb G⟩
    · have hlen : 0 < L.tbs.length := by
        cases hh : L.tbs with
        | nil => exact absurd hh h0
        | cons a l => simp
      obtain ⟨k, hp, hk⟩ := pick_nat o.on hlen
      have hT : ∀ w1, Below w.heap.size w w1 → ∀ e w', (e = Ending.returned (.bool true) ∧ TwPost I cF cT w1 (L.tbs.getD k 0) (N + 1) (Os k) w') → (e = Ending.returned (.bool true) ∧ PlayPost I cF cT G w wb (L.tbs.length + 1) (fun _ => N + 1) (M + 1) w') := by
        rintro w1 hb e w' ⟨he, hq⟩
        obtain ⟨Os', ha, hbb⟩ := (h.below sp hb).step sp hk hq
        exact ⟨he, L, OL, K, Os', ha.mono (hup k) (Nat.le_succ _), Nat.le_succ _, (only_of_below hb G).trans hbb (Grows.refl _ _)⟩
      by_cases h2 : o.kind ≤ 0
      · refine (plays_other h.law htb hk ho hp h2).mono ?_
        rintro e w' ⟨he, hb⟩
        exact ⟨he, L, OL, K, Os, (h.below sp hb).mono (fun _ => Nat.le_succ _) (Nat.le_succ _), Nat.le_succ _, only_of_below hb G⟩
      by_cases h3 : o.kind = 2
      · exact (plays_var sp (h.tw k hk) hN h.law htb hk rfl ho hp h3).mono (hT w (Below.refl _ _))
      by_cases h4 : o.kind = 3 ∨ o.kind = 4 ∨ o.kind = 5
      · exact plays_works h.law htb hk ho hp h4 (fun w1 hb => (lawWorks sp ((h.below sp hb).tw k hk) hN (ho.below hb) h4).mono (hT w1 hb))
      by_cases h5 : o.kind = 6 ∨ o.kind = 7 ∨ o.kind = 8
      · refine plays_asks h.law htb hk ho hp h5 (fun w1 hb => ?_)
        have h' := h.below sp hb
        have hmt := h.mt
        have hmi := h.mi
        have hmn := h.mn
        refine (lawAsks sp (h'.tw k hk) hN (ho.below hb) h5 h'.law (h'.d k hk) (by omega) (by omega) (by omega)).mono ?_
        rintro e w' ⟨he, hq⟩
        obtain ⟨L', OL', K', Os', ha, hl, hbb⟩ := h'.ask sp hk hq
        exact ⟨he, L', OL', K', Os', ha.mono (hup k) (Nat.le_refl _), by rw [hl]; exact Nat.le_succ _, (only_of_below hb G).trans hbb (Grows.refl _ _)⟩
      · have h6 : o.kind = 9 := by omega
        exact plays_const h.law htb hk ho hp h6 (fun w1 hb => (lawConst sp ((h.below sp hb).tw k hk) hN (ho.below hb) h6 wb).mono (hT w1 hb))

end Go.Proofs.YtebfmcafmojlaaaGreatDoor

/-
  copselaw.World: tells.
-/
namespace Go.Proofs.YtebfmcafmojlaaaGreatDoor
open Go.RowKit
set_option linter.unusedSimpArgs false
set_option linter.unusedVariables false

theorem pickI_self {i n : Nat} (h : i < n) : pickI (i : Int) (n : Int) = (i : Int) := by
  unfold pickI
  rw [if_neg (by omega)]
  exact Int.emod_eq_of_lt (by omega) (by omega)

theorem lawEval {I : (Nat → Prop) → World → Nat → CopS → Prop} {cF cT : Nat} (sp : CopseSpec I cF cT) {O : Nat → Prop} {w : World} {tb N : Nat} (h : TwIs I cF cT O w tb N) (hN : N ≤ 3000000) {o : OpS} {fv : Value} (ho : OpOk w o fv) (hk : o.kind = 6) (wb : Nat) :
    Calls Tryz.prog 65 #[.pointer (some ⟨wb, 0, none⟩), .pointer (some ⟨tb, 0, none⟩), opv o fv] w fun e w' => e = .returned (.bool true) ∧ TwPost I cF cT w tb (N + 1) O w' := by
  obtain ⟨x, r, C, S, l, av, OT, OX, OR, st, ok, hO⟩ := h
  rw [un_eq hO]
  have hfl : o.f.length ≤ 2000000 := Nat.le_trans ho.fl (by decide)
  cases hp : sevB l o.f 0
  · exact asks_eval_bad sp st ok hN o fv ho.f hfl ho.z ho.s hk wb ho.a hp
  · exact asks_eval sp st ok hN o fv ho.f hfl ho.z ho.s hk wb ho.a hp

/-- While a copse tells: c answers of twin i, m lists. -/
def TellSt (I : (Nat → Prop) → World → Nat → CopS → Prop) (cF cT : Nat) (G : Nat → Prop) (w : World) (wb : Nat) (tbs : List Nat) (Ns : Nat → Nat) (i M c m : Nat) (wr : World) : Prop :=
  ∃ L' OL' K' Os', AllIs I cF cT G wr wb L' OL' K' Os' (setN Ns i (Ns i + c)) (M + m) ∧ L'.tbs = tbs ∧ Only G w wr

theorem setN_set (Ns : Nat → Nat) (i a b : Nat) : setN (setN Ns i a) i b = setN Ns i b := by
  funext j
  unfold setN
  split <;> rfl

theorem setN_le (Ns : Nat → Nat) (i a b : Nat) (h : a ≤ b) : ∀ j, setN Ns i a j ≤ setN Ns i b j := by
  intro j
  unfold setN
  split <;> omega

theorem TellSt.mono {I : (Nat → Prop) → World → Nat → CopS → Prop} {cF cT : Nat} {G : Nat → Prop} {w : World} {wb : Nat} {tbs : List Nat} {Ns : Nat → Nat} {i M c m c' m' : Nat} {wr : World} (h : TellSt I cF cT G w wb tbs Ns i M c m wr) (hc : c ≤ c') (hm : m ≤ m') : TellSt I cF cT G w wb tbs Ns i M c' m' wr := by
  obtain ⟨L', OL', K', Os', h1, h2, h3⟩ := h
  exact ⟨L', OL', K', Os', h1.mono (setN_le _ _ _ _ (by omega)) (by omega), h2, h3⟩

theorem tell_len {I : (Nat → Prop) → World → Nat → CopS → Prop} {cF cT : Nat} {G : Nat → Prop} {w : World} {wb : Nat} {tbs : List Nat} {Ns : Nat → Nat} {i M c m : Nat} {wr : World} (h : TellSt I cF cT G w wb tbs Ns i M c m wr) (hi : i < tbs.length) : ∃ (ao : Option Addr) (n cap : Nat), wr.cell? ⟨tbs.getD i 0, 2, none⟩ = some (.slice ao n cap) := by
  obtain ⟨L', OL', K', Os', h1, h2, h3⟩ := h
  subst h2
  obtain ⟨x, r, C, S, l, av, OT, OX, OR, st, ok, hO⟩ := h1.tw i hi
  obtain ⟨ao, cap, rfl⟩ := owns_form st.t.row
  exact ⟨ao, l.length, cap, by rw [cell_of_heap st.t.cells]; rfl⟩

def oneF (w : World) (k : Nat) : World := w.alloc (.cells #[.int .i64 (k : Int)] 3)

theorem one_ok (w : World) (k : Nat) (hk : k ≤ 1000000) (o : OpS) (hf : o.f = [(k : Int)]) (hs : o.s = ByteArray.empty) (ha : i64ok o.a) (hon : i64ok o.on) (hkd : i64ok o.kind) : OpOk (oneF w k) o (.slice (some ⟨w.heap.size, 0, none⟩) 1 1) := by
  refine ⟨?_, by rw [hf]; simp, ?_, by rw [hs]; decide, ha, hon, hkd⟩
  · rw [hf]
    refine .inr ⟨w.heap.size, 0, 1, rfl, by simp [oneF], ?_⟩
    intro i hi
    simp at hi
    subst hi
    rw [oneF, cell_of_heap (heap_alloc_new w _)]
    rfl
  · intro z hz
    rw [hf] at hz
    simp at hz
    subst hz
    unfold i64ok
    omega

theorem tell_eval {I : (Nat → Prop) → World → Nat → CopS → Prop} {cF cT : Nat} (sp : CopseSpec I cF cT) {G : Nat → Prop} {w : World} {wb : Nat} {tbs : List Nat} {Ns : Nat → Nat} {i M c m : Nat} {wr : World} (h : TellSt I cF cT G w wb tbs Ns i M c m wr) (hi : i < tbs.length) (htb : tbs.length ≤ 4000000) (hN : Ns i + c ≤ 3000000) (k a : Nat) (hk : k ≤ 1000000) (ha : a ≤ 1000000) :
    Calls Tryz.prog 26 #[.pointer (some ⟨wb, 0, none⟩), .agg #[.int .i64 6, .int .i64 (i : Int), .int .i64 (a : Int), .bool false, .slice (some ⟨wr.heap.size, 0, none⟩) 1 1, .string ByteArray.empty]] (oneF wr k) fun e w' => e = .returned (.bool true) ∧ TellSt I cF cT G w wb tbs Ns i M (c + 1) m w' := by
  obtain ⟨L', OL', K', Os', h1, h2, h3⟩ := h
  subst h2
  have hb0 : Below wr.heap.size wr (oneF wr k) := (Below.refl _ _).alloc (Nat.le_refl _) _
  have h1' := h1.below sp hb0
  have ho := one_ok wr k hk ⟨6, i, a, false, [(k : Int)], ByteArray.empty⟩ rfl rfl (by unfold i64ok; dsimp only; omega) (by unfold i64ok; dsimp only; omega) (by unfold i64ok; dsimp only; omega)
  refine plays_asks h1'.law htb hi ho (pickI_self hi) (.inl rfl) (fun w1 hb => ?_)
  have h2' := h1'.below sp hb
  have hNi : setN Ns i (Ns i + c) i ≤ 3000000 := by rw [setN_at]; exact hN
  refine (lawEval sp (h2'.tw i hi) hNi (ho.below hb) rfl wb).mono ?_
  rintro e w' ⟨he, hp⟩
  obtain ⟨Os2, ha2, hon⟩ := h2'.step sp hi hp
  rw [setN_set, setN_at] at ha2
  exact ⟨he, L', OL', K', Os2, ha2, rfl, (h3.trans (only_of_below hb0 G) (Grows.refl _ _)).trans ((only_of_below hb G).trans hon (Grows.refl _ _)) (Grows.refl _ _)⟩

theorem tell_sup {I : (Nat → Prop) → World → Nat → CopS → Prop} {cF cT : Nat} (sp : CopseSpec I cF cT) {G : Nat → Prop} {w : World} {wb : Nat} {tbs : List Nat} {Ns : Nat → Nat} {i M c m : Nat} {wr : World} (h : TellSt I cF cT G w wb tbs Ns i M c m wr) (hi : i < tbs.length) (htb : tbs.length ≤ 4000000) (hN : Ns i + c ≤ 3000000) (hM : M + m ≤ 20000000) (k : Nat) (hk : k ≤ 1000000) :
    Calls Tryz.prog 26 #[.pointer (some ⟨wb, 0, none⟩), .agg #[.int .i64 7, .int .i64 (i : Int), .int .i64 0, .bool false, .slice (some ⟨wr.heap.size, 0, none⟩) 1 1, .string ByteArray.empty]] (oneF wr k) fun e w' => e = .returned (.bool true) ∧ TellSt I cF cT G w wb tbs Ns i M (c + 1) (m + 1) w' := by
  obtain ⟨L', OL', K', Os', h1, h2, h3⟩ := h
  subst h2
  have hb0 : Below wr.heap.size wr (oneF wr k) := (Below.refl _ _).alloc (Nat.le_refl _) _
  have h1' := h1.below sp hb0
  have ho := one_ok wr k hk ⟨7, i, 0, false, [(k : Int)], ByteArray.empty⟩ rfl rfl (by unfold i64ok; dsimp only; omega) (by unfold i64ok; dsimp only; omega) (by unfold i64ok; dsimp only; omega)
  refine plays_asks h1'.law htb hi ho (pickI_self hi) (.inr (.inl rfl)) (fun w1 hb => ?_)
  have h2' := h1'.below sp hb
  have hNi : setN Ns i (Ns i + c) i ≤ 3000000 := by rw [setN_at]; exact hN
  have hmt := h2'.mt
  have hmi := h2'.mi
  have hmn := h2'.mn
  refine (lawAsks sp (h2'.tw i hi) hNi (ho.below hb) (.inr (.inl rfl)) h2'.law (h2'.d i hi) (by omega) (by omega) (by omega)).mono ?_
  rintro e w' ⟨he, hp⟩
  obtain ⟨L2, OL2, K2, Os2, ha2, hl2, hon⟩ := h2'.ask sp hi hp
  rw [setN_set, setN_at] at ha2
  exact ⟨he, L2, OL2, K2, Os2, ha2, hl2, (h3.trans (only_of_below hb0 G) (Grows.refl _ _)).trans ((only_of_below hb G).trans hon (Grows.refl _ _)) (Grows.refl _ _)⟩

set_option maxHeartbeats 4000000 in
set_option maxRecDepth 20000 in
theorem lawTells {I : (Nat → Prop) → World → Nat → CopS → Prop} {cF cT : Nat} (sp : CopseSpec I cF cT) {G : Nat → Prop} {w : World} {wb : Nat} {L : LawS} {OL K : Nat → Prop} {Os : Nat → Nat → Prop} {Ns : Nat → Nat} {M : Nat} (h : AllIs I cF cT G w wb L OL K Os Ns M) (htb : L.tbs.length ≤ 4000000) {i : Nat} (hi : i < L.tbs.length) (hN : Ns i ≤ 2900000) (hM : M ≤ 19000000) :
    Calls Tryz.prog 28 #[.pointer (some ⟨wb, 0, none⟩), .int .i64 (i : Int)] w fun e w' => e = .returned (.bool true) ∧ TellSt I cF cT G w wb L.tbs Ns i M 3000 40 w' := by
  have hst0 : TellSt I cF cT G w wb L.tbs Ns i M 0 0 w := ⟨L, OL, K, Os, h.mono (fun j => by unfold setN; split <;> simp_all) (Nat.le_refl _), rfl, Only.refl _ _⟩
  obtain ⟨⟨av, tv, mv, iv, nv, hLa⟩, hK, hdk⟩ := h.law
  obtain ⟨g, cap, rfl, hgl, hgk⟩ := law_twin hLa hi
  have hwl := hLa.lt wb hLa.self
  have hav : w.cell? ⟨wb, 0, none⟩ = some (.slice (some ⟨g, 0, none⟩) L.tbs.length cap) := by rw [cell_of_heap hLa.cells]; rfl
  have hi' : i < 4000000 := by omega
  obtain ⟨tbs, htbs⟩ : ∃ tbs, tbs = L.tbs := ⟨_, rfl⟩
  rw [← htbs] at hst0 hi htb hgk hav ⊢
  have hlen := fun c m wr hh => tell_len (I := I) (cF := cF) (cT := cT) (G := G) (w := w) (wb := wb) (tbs := tbs) (Ns := Ns) (i := i) (M := M) (c := c) (m := m) (wr := wr) hh hi
  have heval := fun c m wr hh hn k a hk ha => tell_eval (I := I) (cF := cF) (cT := cT) sp (G := G) (w := w) (wb := wb) (tbs := tbs) (Ns := Ns) (i := i) (M := M) (c := c) (m := m) (wr := wr) hh hi htb hn k a hk ha
  have hsup := fun c m wr hh hn hm k hk => tell_sup (I := I) (cF := cF) (cT := cT) sp (G := G) (w := w) (wb := wb) (tbs := tbs) (Ns := Ns) (i := i) (M := M) (c := c) (m := m) (wr := wr) hh hi htb hn hm k hk
  clear hLa hK hdk h htbs
  generalize tbs.getD i 0 = tb at *
  generalize hn0 : tbs.length = n at *
  clear hn0
  go_enter Tryz.func28, Tryz.ntmps28
  go_wp2_with fail
  go_loopw [6] (fun kv wr => ∃ k : Nat, k ≤ 40 ∧ kv = .int .i64 k ∧ TellSt I cF cT G w wb tbs Ns i M (70 * k) k wr) (fun kv _ => 40 - (intOf kv).toNat)
  case atStart => exact ⟨0, by omega, rfl, hst0⟩
  case round =>
    obtain ⟨k, hk, rfl, hst⟩ := hrel
    obtain ⟨tao, tn, tcap, hc2⟩ := hlen _ _ _ hst
    obtain ⟨w1, hw1⟩ : ∃ w1, w1 = wr := ⟨_, rfl⟩
    subst hw1
    by_cases h1 : k < tn
    · by_cases h2 : k < 40
      · have hdk : decide ((k : Int) < 40) = true := decide_eq_true (by omega)
        go_wp2_with fail
        clear hdk
        go_loopw [7] (fun avl wr => ∃ a : Nat, a ≤ 66 ∧ avl = .int .i64 a ∧ TellSt I cF cT G w wb tbs Ns i M (70 * k + a) k wr) (fun avl _ => 66 - (intOf avl).toNat)
        case atStart => exact ⟨0, by omega, rfl, hst⟩
        case round =>
          obtain ⟨a, ha, rfl, hst2⟩ := hrel
          by_cases h3 : a < 64
          · have hev := heval _ _ _ hst2 (by omega) k a (by omega) (by omega)
            go_wp2_with (first | (go_at_call 26; refine hev.mono ?_; rintro e w9 ⟨rfl, hst3⟩))
            go_roundw
            case rel => exact ⟨a + 1 + k % 3, by omega, by go_num, hst3.mono (by omega) (Nat.le_refl _)⟩
            case measure => simp [intOf]; omega
          · have hsp := hsup _ _ _ hst2 (by omega) (by omega) k (by omega)
            go_wp2_with (first | (go_at_call 26; refine hsp.mono ?_; rintro e w9 ⟨rfl, hst3⟩))
            go_roundw
            case rel => exact ⟨k + 1, by omega, by go_num, hst3.mono (by omega) (Nat.le_refl _)⟩
            case measure => simp [intOf]; omega
      · go_wp2_with fail
        go_ret
        exact ⟨rfl, hst.mono (by omega) hk⟩
    · go_wp2_with fail
      go_ret
      exact ⟨rfl, hst.mono (by omega) hk⟩

end Go.Proofs.YtebfmcafmojlaaaGreatDoor

/-
  copselaw.World: known: the document's example, exactly.
-/
namespace Go.Proofs.YtebfmcafmojlaaaGreatDoor
open Go.RowKit
set_option linter.unusedSimpArgs false
set_option linter.unusedVariables false

/-- One twin alone, told exactly. -/
structure OneIs (I : (Nat → Prop) → World → Nat → CopS → Prop) (cF cT : Nat) (G : Nat → Prop) (w : World) (wb : Nat) (L : LawS) (OL K O : Nat → Prop) (tb N M : Nat) (S : RefS) (fs : List Tab) : Prop where
  law : LawIs OL K w wb L
  tbs : L.tbs = [tb]
  tw : TwIsX I cF cT O w tb N S fs
  d : ∀ b, O b → ¬ OL b ∧ ¬ K b
  bL : ∀ b, OL b ∨ K b → G b
  bT : ∀ b, O b → G b
  nw : ∀ b, w.heap.size ≤ b → G b
  mt : L.texts.length ≤ 4 * M
  mi : L.ints.length ≤ 4 * M
  mn : L.n ≤ M

theorem TwIsX.mono {I : (Nat → Prop) → World → Nat → CopS → Prop} {cF cT : Nat} {O : Nat → Prop} {w : World} {tb N N' : Nat} {S : RefS} {fs : List Tab} (h : TwIsX I cF cT O w tb N S fs) (hN : N ≤ N') : TwIsX I cF cT O w tb N' S fs := by
  obtain ⟨x, r, C, l, av, OT, OX, OR, h1, h2, h3, h4⟩ := h
  exact ⟨x, r, C, l, av, OT, OX, OR, h1, h2.mono hN, h3, h4⟩

theorem TwIsX.below {I : (Nat → Prop) → World → Nat → CopS → Prop} {cF cT : Nat} (sp : CopseSpec I cF cT) {O : Nat → Prop} {w w' : World} {tb N : Nat} {S : RefS} {fs : List Tab} (h : TwIsX I cF cT O w tb N S fs) (hb : Below w.heap.size w w') : TwIsX I cF cT O w' tb N S fs := by
  obtain ⟨x, r, C, l, av, OT, OX, OR, h1, h2, h3, h4⟩ := h
  exact ⟨x, r, C, l, av, OT, OX, OR, h1.below sp hb, h2, h3, h4⟩

theorem OneIs.mono {I : (Nat → Prop) → World → Nat → CopS → Prop} {cF cT : Nat} {G : Nat → Prop} {w : World} {wb : Nat} {L : LawS} {OL K O : Nat → Prop} {tb N M N' M' : Nat} {S : RefS} {fs : List Tab} (h : OneIs I cF cT G w wb L OL K O tb N M S fs) (hN : N ≤ N') (hM : M ≤ M') : OneIs I cF cT G w wb L OL K O tb N' M' S fs :=
  ⟨h.law, h.tbs, h.tw.mono hN, h.d, h.bL, h.bT, h.nw, Nat.le_trans h.mt (by omega), Nat.le_trans h.mi (by omega), Nat.le_trans h.mn hM⟩

theorem OneIs.below {I : (Nat → Prop) → World → Nat → CopS → Prop} {cF cT : Nat} (sp : CopseSpec I cF cT) {G : Nat → Prop} {w w' : World} {wb : Nat} {L : LawS} {OL K O : Nat → Prop} {tb N M : Nat} {S : RefS} {fs : List Tab} (h : OneIs I cF cT G w wb L OL K O tb N M S fs) (hb : Below w.heap.size w w') : OneIs I cF cT G w' wb L OL K O tb N M S fs :=
  ⟨h.law.keep hb.size (fun k hk => hb.block k (h.law.lt k hk)), h.tbs, h.tw.below sp hb, h.d, h.bL, h.bT, fun b hb2 => h.nw b (Nat.le_trans hb.size hb2), h.mt, h.mi, h.mn⟩

theorem OneIs.all {I : (Nat → Prop) → World → Nat → CopS → Prop} {cF cT : Nat} {G : Nat → Prop} {w : World} {wb : Nat} {L : LawS} {OL K O : Nat → Prop} {tb N M : Nat} {S : RefS} {fs : List Tab} (h : OneIs I cF cT G w wb L OL K O tb N M S fs) : AllIs I cF cT G w wb L OL K (fun _ => O) (fun _ => N) M := by
  have hl : L.tbs.length = 1 := by rw [h.tbs]; rfl
  refine ⟨h.law, ?_, fun j hj => h.d, ?_, h.bL, fun j hj => h.bT, h.nw, h.mt, h.mi, h.mn⟩
  · intro j hj
    have : j = 0 := by omega
    subst this
    rw [h.tbs]
    exact h.tw.is
  · intro i j hi hj hij
    omega

theorem OneIs.step {I : (Nat → Prop) → World → Nat → CopS → Prop} {cF cT : Nat} {G : Nat → Prop} {w w' : World} {wb : Nat} {L : LawS} {OL K O : Nat → Prop} {tb N M n : Nat} {S S' : RefS} {fs fs' : List Tab} (h : OneIs I cF cT G w wb L OL K O tb N M S fs) (hp : TwPostX I cF cT w tb n O S' fs' w') :
    ∃ O', OneIs I cF cT G w' wb L OL K O' tb n M S' fs' ∧ Only G w w' := by
  obtain ⟨ho, O', ht, gO⟩ := hp
  refine ⟨O', ⟨h.law.keep ho.size (fun b hb => ho.block b (h.law.lt b hb) (fun e => hb.elim (h.d b e).1 (h.d b e).2)), h.tbs, ht, ?_, h.bL, ?_, fun b hb2 => h.nw b (Nat.le_trans ho.size hb2), h.mt, h.mi, h.mn⟩, ho.mono h.bT⟩
  · intro b hb
    rcases gO b hb with e | e
    · exact h.d b e
    · exact ⟨fun e2 => by have := h.law.lt b (.inl e2); omega, fun e2 => by have := h.law.lt b (.inr e2); omega⟩
  · intro b hb
    rcases gO b hb with e | e
    · exact h.bT b e
    · exact h.nw b e

theorem OneIs.ask {I : (Nat → Prop) → World → Nat → CopS → Prop} {cF cT : Nat} {G : Nat → Prop} {w w' : World} {wb : Nat} {L : LawS} {OL K O : Nat → Prop} {tb N M n : Nat} {S S' : RefS} {fs fs' : List Tab} (h : OneIs I cF cT G w wb L OL K O tb N M S fs) (hp : AskPostX I cF cT w tb n O wb L OL K S' fs' w') :
    ∃ L' OL' K' O', OneIs I cF cT G w' wb L' OL' K' O' tb n (M + 1) S' fs' ∧ Only G w w' := by
  obtain ⟨OL', K', L', O', hl, ht, ho, e1, e2, e3, e4, gL, gO, gK, hd⟩ := hp
  have hmt := h.mt
  have hmi := h.mi
  have hmn := h.mn
  refine ⟨L', OL', K', O', ⟨hl, by rw [e1]; exact h.tbs, ht, hd, ?_, ?_, fun b hb2 => h.nw b (Nat.le_trans ho.size hb2), by omega, by omega, by omega⟩, ho.mono ?_⟩
  · rintro b (e | e)
    · rcases gL b e with e3 | e3
      · exact h.bL b (.inl e3)
      · exact h.nw b e3
    · rcases gK b e with e3 | e3
      · exact h.bL b (.inr e3)
      · exact h.nw b e3
  · intro b hb
    rcases gO b hb with e | e
    · exact h.bT b e
    · exact h.nw b e
  · rintro b (e | e)
    · exact h.bL b (.inl e)
    · exact h.bT b e

theorem one_begun {I : (Nat → Prop) → World → Nat → CopS → Prop} {cF cT : Nat} {G : Nat → Prop} {w w' : World} {wb : Nat} {L : LawS} {OL K : Nat → Prop} {Os : Nat → Nat → Prop} {Ns : Nat → Nat} {M : Nat} (h : AllIs I cF cT G w wb L OL K Os Ns M) (h0 : L.tbs = []) {cap : Int} (hc : 1 ≤ cap ∧ cap ≤ 300) (hp : BeginPost I cF cT w wb L OL K cap w') :
    ∃ L' OL' O tb, OneIs I cF cT G w' wb L' OL' K O tb 0 M ⟨cap, [], [], []⟩ [0, onesT] ∧ Only G w w' := by
  rcases hp with ⟨hn, _⟩ | ⟨tb, OL', O', hl, ht, ho, gL, hO, hd⟩
  · exact absurd hc hn
  · refine ⟨_, OL', O', tb, ⟨hl, by show L.tbs ++ [tb] = [tb]; rw [h0]; rfl, ht, hd, ?_, fun b hb => h.nw b (hO b hb), fun b hb2 => h.nw b (Nat.le_trans ho.size hb2), h.mt, h.mi, h.mn⟩, ho.mono (fun b hb => h.bL b (.inl hb))⟩
    rintro b (e | e)
    · rcases gL b e with e3 | e3
      · exact h.bL b (.inl e3)
      · exact h.nw b e3
    · exact h.bL b (.inr e)

/-- At what the raw numbers speak of, by the functions alone. -/
theorem sev_fs (l : List (Nat × Tab)) (F : List Int) (i : Nat) (hF : F.getD i 0 ≠ -1) : sevB l F i = true ∧ sevT l F i = (l.map Prod.snd).getD (pickI (F.getD i 0) (l.map Prod.snd).length).toNat 0 := by
  have h : atR l F i = some (l.getD (pickI (F.getD i 0) l.length).toNat (0, 0)) := by unfold atR; rw [if_neg hF]
  refine ⟨by unfold sevB; rw [h]; rfl, ?_⟩
  unfold sevT
  rw [h]
  simp only [List.length_map]
  generalize (pickI (F.getD i 0) l.length).toNat = k
  rw [List.getD_eq_getElem?_getD, List.getD_eq_getElem?_getD, List.getElem?_map]
  cases l[k]? <;> rfl

def sA : ByteArray := ⟨#[97]⟩
def sB : ByteArray := ⟨#[98]⟩
def kC : Tab := iteT (mask 0) (mask 1) 0
def knS : Nat → RefS
  | 0 => ⟨300, [], [], []⟩
  | 1 => ⟨300, [], [], []⟩
  | 2 => ⟨300, [sA], [0], [mask 0]⟩
  | 3 => ⟨300, [sA, sB], [0, 1], [mask 0, mask 1]⟩
  | 4 => ⟨300, [sA, sB], [0, 1], [mask 0, mask 1, kC]⟩
  | _ => ⟨300, [sA, sB], [0, 1], [mask 0, mask 1, kC, ~~~ kC]⟩
def knF : Nat → List Tab
  | 0 => [0, onesT]
  | 1 => [0, onesT]
  | 2 => [0, onesT, mask 0]
  | 3 => [0, onesT, mask 0, mask 1]
  | 4 => [0, onesT, mask 0, mask 1, kC]
  | _ => [0, onesT, mask 0, mask 1, kC, ~~~ kC]

theorem kn_var1 : isNameB sA = true ∧ namedI (knS 1).names sA = -1 ∧ (knS 1).names.length < 6 ∧ ¬ (knS 1).cap < ((allT (newOrder (knS 1)) (newVarT (knS 1))).length : Int) := by
  refine ⟨by kernel_rfl, by kernel_rfl, by decide, of_decide_eq_true (by kernel_rfl)⟩
theorem kn_var2 : isNameB sB = true ∧ namedI (knS 2).names sB = -1 ∧ (knS 2).names.length < 6 ∧ ¬ (knS 2).cap < ((allT (newOrder (knS 2)) (newVarT (knS 2))).length : Int) := by
  refine ⟨by kernel_rfl, by kernel_rfl, by decide, of_decide_eq_true (by kernel_rfl)⟩
theorem kn_s2 : ({ knS 1 with names := (knS 1).names ++ [sA], order := newOrder (knS 1), live := newVarT (knS 1) } : RefS) = knS 2 := by kernel_rfl
theorem kn_f2 : toldF (knF 1) (mask (knS 1).names.length) = knF 2 := by kernel_rfl
theorem kn_s3 : ({ knS 2 with names := (knS 2).names ++ [sB], order := newOrder (knS 2), live := newVarT (knS 2) } : RefS) = knS 3 := by kernel_rfl
theorem kn_f3 : toldF (knF 2) (mask (knS 2).names.length) = knF 3 := by kernel_rfl
theorem kn_s4 : ({ knS 3 with names := (knS 3).names, order := (knS 3).order, live := withT (knS 3).live [kC] } : RefS) = knS 4 := by kernel_rfl
theorem kn_f4 : toldF (knF 3) kC = knF 4 := by kernel_rfl
theorem kn_s5 : ({ knS 4 with names := (knS 4).names, order := (knS 4).order, live := withT (knS 4).live [~~~ kC] } : RefS) = knS 5 := by kernel_rfl
theorem kn_f5 : toldF (knF 4) (~~~ kC) = knF 5 := by kernel_rfl
theorem kn_room4 : ¬ ((300 : Int) < ((allT (knS 3).order (withT (knS 3).live [kC])).length : Int)) := of_decide_eq_true (by kernel_rfl)
theorem kn_room5 : ¬ ((300 : Int) < ((allT (knS 4).order (withT (knS 4).live [~~~ kC])).length : Int)) := of_decide_eq_true (by kernel_rfl)

end Go.Proofs.YtebfmcafmojlaaaGreatDoor

/-
  copselaw.World: known: its steps.
-/
namespace Go.Proofs.YtebfmcafmojlaaaGreatDoor
open Go.RowKit
set_option linter.unusedSimpArgs false
set_option linter.unusedVariables false

def KnPost (I : (Nat → Prop) → World → Nat → CopS → Prop) (cF cT : Nat) (G : Nat → Prop) (w : World) (wb n m : Nat) (S : RefS) (fs : List Tab) (w' : World) : Prop :=
  ∃ L' OL' K' O' tb', OneIs I cF cT G w' wb L' OL' K' O' tb' n m S fs ∧ Only G w w'

theorem kn_new {I : (Nat → Prop) → World → Nat → CopS → Prop} {cF cT : Nat} (sp : CopseSpec I cF cT) {G : Nat → Prop} {w : World} {wb : Nat} {L : LawS} {OL K : Nat → Prop} {Os : Nat → Nat → Prop} {Ns : Nat → Nat} (h : AllIs I cF cT G w wb L OL K Os Ns 0) (h0 : L.tbs = []) {o : OpS} {fv : Value} (ho : OpOk w o fv) (hk : o.kind = 1) (ha : o.a = 300) :
    Calls Tryz.prog 26 #[.pointer (some ⟨wb, 0, none⟩), opv o fv] w fun e w' => e = .returned (.bool true) ∧ KnPost I cF cT G w wb 1 1 (knS 1) (knF 1) w' := by
  refine plays_begin ho hk (fun w1 hb => ?_)
  have h' := h.below sp hb
  refine (begin_yes sp o fv h'.law (by rw [h0]; simp) (ho.below hb) (by omega) (by omega)).mono ?_
  rintro e w' ⟨he, hp⟩
  rw [ha] at hp
  obtain ⟨L', OL', O, tb, h1, h2⟩ := one_begun h' h0 (by omega) hp
  exact ⟨he, L', OL', K, O, tb, h1.mono (by omega) (by omega), (only_of_below hb G).trans h2 (Grows.refl _ _)⟩

theorem one_pick {L : LawS} {tb : Nat} (h : L.tbs = [tb]) (on : Int) : pickI on L.tbs.length = ((0 : Nat) : Int) := by
  rw [h]
  unfold pickI
  show _ % ((1 : Nat) : Int) = _
  exact Int.emod_one _

theorem kn_var {I : (Nat → Prop) → World → Nat → CopS → Prop} {cF cT : Nat} (sp : CopseSpec I cF cT) {G : Nat → Prop} {w : World} {wb : Nat} {L : LawS} {OL K O : Nat → Prop} {tb N M : Nat} {S : RefS} {fs : List Tab} (h : OneIs I cF cT G w wb L OL K O tb N M S fs) (hN : N ≤ 3000000) {o : OpS} {fv : Value} (ho : OpOk w o fv) (hk : o.kind = 2)
    (hc : isNameB o.s = true ∧ namedI S.names o.s = -1 ∧ S.names.length < 6 ∧ ¬ S.cap < ((allT (newOrder S) (newVarT S)).length : Int)) :
    Calls Tryz.prog 26 #[.pointer (some ⟨wb, 0, none⟩), opv o fv] w fun e w' => e = .returned (.bool true) ∧ KnPost I cF cT G w wb (N + 1) M { S with names := S.names ++ [o.s], order := newOrder S, live := newVarT S } (toldF fs (mask S.names.length)) w' := by
  obtain ⟨x, r, C, l, av, OT, OX, OR, st, ok, hO, hl⟩ := h.tw
  have hU := un_eq hO
  subst hl
  subst hU
  refine (plays_var_room sp st ok hN h.law (by rw [h.tbs]; simp) (k := 0) (by rw [h.tbs]; simp) (by rw [h.tbs]; rfl) ho (one_pick h.tbs _) hk hc.1 hc.2.1 hc.2.2.1 hc.2.2.2).mono ?_
  rintro e w' ⟨he, hp⟩
  obtain ⟨O', h1, h2⟩ := h.step hp
  exact ⟨he, L, OL, K, O', tb, h1, h2⟩

theorem kn_ite {I : (Nat → Prop) → World → Nat → CopS → Prop} {cF cT : Nat} (sp : CopseSpec I cF cT) {G : Nat → Prop} {w : World} {wb : Nat} {L : LawS} {OL K O : Nat → Prop} {tb N M : Nat} (h : OneIs I cF cT G w wb L OL K O tb N M (knS 3) (knF 3)) (hN : N ≤ 3000000) {o : OpS} {fv : Value} (ho : OpOk w o fv) (hk : o.kind = 4) (hF : o.f = [2, 3, 0]) :
    Calls Tryz.prog 26 #[.pointer (some ⟨wb, 0, none⟩), opv o fv] w fun e w' => e = .returned (.bool true) ∧ KnPost I cF cT G w wb (N + 1) M (knS 4) (knF 4) w' := by
  refine plays_works h.law (by rw [h.tbs]; simp) (k := 0) (by rw [h.tbs]; simp) ho (one_pick h.tbs _) (.inr (.inl hk)) (fun w1 hb => ?_)
  have h' := h.below sp hb
  have htb : L.tbs.getD 0 0 = tb := by rw [h.tbs]; rfl
  rw [htb]
  obtain ⟨x, r, C, l, av, OT, OX, OR, st, ok, hO, hl⟩ := h'.tw
  have hU := un_eq hO
  subst hU
  have q0 := sev_fs l o.f 0 (by rw [hF]; decide)
  have q1 := sev_fs l o.f 1 (by rw [hF]; decide)
  have q2 := sev_fs l o.f 2 (by rw [hF]; decide)
  rw [hl] at q0 q1 q2
  have e0 : sevT l o.f 0 = mask 0 := by rw [q0.2, hF]; kernel_rfl
  have e1 : sevT l o.f 1 = mask 1 := by rw [q1.2, hF]; kernel_rfl
  have e2 : sevT l o.f 2 = 0 := by rw [q2.2, hF]; kernel_rfl
  have hfull : ¬ fullC C (knS 3).live (iteT (sevT l o.f 0) (sevT l o.f 1) (sevT l o.f 2)) := by
    rw [e0, e1, e2]
    unfold fullC
    rw [ok.cap, ok.order]
    exact kn_room4
  have hw := works_ite_room sp st ok hN o fv (ho.below hb).f (Nat.le_trans ho.fl (by decide)) ho.z ho.s hk ⟨q0.1, q1.1, q2.1⟩ hfull
  rw [e0, e1, e2, hl] at hw
  refine hw.mono ?_
  rintro e w' ⟨he, hp⟩
  obtain ⟨O', h1, h2⟩ := h'.step hp
  exact ⟨he, L, OL, K, O', tb, kn_s4 ▸ kn_f4 ▸ h1, (only_of_below hb G).trans h2 (Grows.refl _ _)⟩

theorem kn_not {I : (Nat → Prop) → World → Nat → CopS → Prop} {cF cT : Nat} (sp : CopseSpec I cF cT) {G : Nat → Prop} {w : World} {wb : Nat} {L : LawS} {OL K O : Nat → Prop} {tb N M : Nat} (h : OneIs I cF cT G w wb L OL K O tb N M (knS 4) (knF 4)) (hN : N ≤ 3000000) {o : OpS} {fv : Value} (ho : OpOk w o fv) (hk : o.kind = 3) (hF : o.f = [4]) :
    Calls Tryz.prog 26 #[.pointer (some ⟨wb, 0, none⟩), opv o fv] w fun e w' => e = .returned (.bool true) ∧ KnPost I cF cT G w wb (N + 1) M (knS 5) (knF 5) w' := by
  refine plays_works h.law (by rw [h.tbs]; simp) (k := 0) (by rw [h.tbs]; simp) ho (one_pick h.tbs _) (.inl hk) (fun w1 hb => ?_)
  have h' := h.below sp hb
  have htb : L.tbs.getD 0 0 = tb := by rw [h.tbs]; rfl
  rw [htb]
  obtain ⟨x, r, C, l, av, OT, OX, OR, st, ok, hO, hl⟩ := h'.tw
  have hU := un_eq hO
  subst hU
  have q0 := sev_fs l o.f 0 (by rw [hF]; decide)
  rw [hl] at q0
  have e0 : sevT l o.f 0 = kC := by rw [q0.2, hF]; kernel_rfl
  have hfull : ¬ fullC C (knS 4).live (~~~ (sevT l o.f 0)) := by
    rw [e0]
    unfold fullC
    rw [ok.cap, ok.order]
    exact kn_room5
  have hw := works_not_room sp st ok hN o fv (ho.below hb).f (Nat.le_trans ho.fl (by decide)) ho.z ho.s hk q0.1 hfull
  rw [e0, hl] at hw
  refine hw.mono ?_
  rintro e w' ⟨he, hp⟩
  obtain ⟨O', h1, h2⟩ := h'.step hp
  exact ⟨he, L, OL, K, O', tb, kn_s5 ▸ kn_f5 ▸ h1, (only_of_below hb G).trans h2 (Grows.refl _ _)⟩

theorem kn_nodes {I : (Nat → Prop) → World → Nat → CopS → Prop} {cF cT : Nat} (sp : CopseSpec I cF cT) {G : Nat → Prop} {w : World} {wb : Nat} {L : LawS} {OL K O : Nat → Prop} {tb N M : Nat} {S : RefS} {fs : List Tab} (h : OneIs I cF cT G w wb L OL K O tb N M S fs) (hN : N ≤ 3000000) (hM : M ≤ 20000000) {o : OpS} {fv : Value} (ho : OpOk w o fv) (hk : o.kind = 8) :
    Calls Tryz.prog 26 #[.pointer (some ⟨wb, 0, none⟩), opv o fv] w fun e w' => e = .returned (.bool true) ∧ KnPost I cF cT G w wb (N + 1) (M + 1) S fs w' := by
  refine plays_asks h.law (by rw [h.tbs]; simp) (k := 0) (by rw [h.tbs]; simp) ho (one_pick h.tbs _) (.inr (.inr hk)) (fun w1 hb => ?_)
  have h' := h.below sp hb
  have htb : L.tbs.getD 0 0 = tb := by rw [h.tbs]; rfl
  rw [htb]
  obtain ⟨x, r, C, l, av, OT, OX, OR, st, ok, hO, hl⟩ := h'.tw
  have hU := un_eq hO
  subst hU
  subst hl
  have hmi := h.mi
  have hmn := h.mn
  refine (asks_nodes sp st ok hN o fv (ho.below hb).f (Nat.le_trans ho.fl (by decide)) ho.z ho.s hk h'.law h'.d (by omega) (by omega) ho.fl).mono ?_
  rintro e w' ⟨he, hp⟩
  obtain ⟨L', OL', K', O', h1, h2⟩ := h'.ask hp
  exact ⟨he, L', OL', K', O', tb, h1, (only_of_below hb G).trans h2 (Grows.refl _ _)⟩

end Go.Proofs.YtebfmcafmojlaaaGreatDoor

