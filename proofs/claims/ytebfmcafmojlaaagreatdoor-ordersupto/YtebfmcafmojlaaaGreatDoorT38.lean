/-
  copselaw.World: orders: Order, Live.
-/
import Derived.Test.YtebfmcafmojlaaaGreatDoorT37
import Derived.Test.YtebfmcafmojlaaaGreatDoorT09
import Derived.Test.YtebfmcafmojlaaaGreatDoorT30
namespace Go.Proofs.YtebfmcafmojlaaaGreatDoor
open Go.RowKit
set_option linter.unusedSimpArgs false
set_option linter.unusedVariables false

set_option maxHeartbeats 4000000 in
set_option maxRecDepth 20000 in
theorem orders_order {I : (Nat → Prop) → World → Nat → CopS → Prop} {cF cT : Nat} (sp : CopseSpec2 I cF cT) {w : World} {tb x r N : Nat} {C : CopS} {S : RefS} {l : List (Nat × Tab)} {av : Value} {OT OX OR : Nat → Prop} (st : TwSt I w tb x r C S l av OT OX OR) (ok : TwOk cF cT N C S l) (hN : N ≤ 3000000)
    (o : OpS) (fv : Value) (ho : OpOk w o fv) (hk : o.kind = 10) {wb : Nat} {L : LawS} {OL K : Nat → Prop} (hl : LawIs OL K w wb L) (hd2 : ∀ b, Un OT OX OR b → ¬ OL b ∧ ¬ K b) (hLn : L.n ≤ 100000000) (hLt : L.texts.length ≤ 100000000) :
    Calls Tryz.prog 66 #[.pointer (some ⟨wb, 0, none⟩), .pointer (some ⟨tb, 0, none⟩), opv o fv] w fun e w' => e = .returned (.bool true) ∧ AskPostX I cF cT w tb (N + 1) (Un OT OX OR) wb L OL K S (l.map Prod.snd) w' := by
  obtain ⟨fao, fcap, rfl⟩ := reads_form ho.f
  obtain ⟨kd, on, oa, ov, F, os⟩ := o
  dsimp only at hk
  subst hk
  have htl := st.t.lt tb st.t.self
  have hX : w.cell? ⟨tb, 0, none⟩ = some (.pointer (some ⟨x, 0, none⟩)) := by rw [cell_of_heap st.t.cells]; rfl
  have hRp : w.cell? ⟨tb, 1, none⟩ = some (.pointer (some ⟨r, 0, none⟩)) := by rw [cell_of_heap st.t.cells]; rfl
  have hbw := (Below.refl w.heap.size w).alloc (Nat.le_refl _) (.cells #[.int .i64 10, .int .i64 on, .int .i64 oa, .bool ov, .slice fao F.length fcap, .string os] 66)
  have hbl := Below.refl (w.heap.size + 1) (w.alloc (.cells #[.int .i64 10, .int .i64 on, .int .i64 oa, .bool ov, .slice fao F.length fcap, .string os] 66))
  have hsz : w.heap.size + 1 ≤ (w.alloc (.cells #[.int .i64 10, .int .i64 on, .int .i64 oa, .bool ov, .slice fao F.length fcap, .string os] 66)).heap.size := by simp
  have hord := fun wq (hc : I OX wq x C) => sp.order hc
  have href := fun wq (hq : RefIs OR wq r S) => refOrdered_is hq (ok.ref hN) ok.ord
  rw [ok.names, ok.order] at hord
  have hTl : (namesO S.names S.order).length ≤ 6 := by unfold namesO; rw [List.length_map]; exact ok.ol
  have hTn : S.order.length = (namesO S.names S.order).length := by unfold namesO; rw [List.length_map]
  rw [hTn] at hord href
  generalize namesO S.names S.order = T at hord href hTl
  clear hTn
  obtain ⟨⟨lav, ltv, lmv, liv, lnv, hLa⟩, hKa, hdK⟩ := id hl
  have hlt := fun k hk => sp.b.lt st.c k hk
  clear ho
  unfold opv
  dsimp only
  go_enter Tryz.func66, Tryz.ntmps66
  go_wp2_with (first
    | (go_at_call 15; refine (hord _ (st.below sp.b hbw).c).mono ?_; clear hord; rintro e w2 ⟨v, rfl, hvo, hb2⟩; obtain ⟨vao, vcap, rfl⟩ := owns_form hvo; have hbw2 := hbw.trans (hb2.mono hbw.size); have hr2 := (hbw2.cell (p := ⟨tb, 1, none⟩) htl).trans hRp)
    | (go_at_call 121; refine (href _ (st.below sp.b hbw2).s).mono ?_; clear href; rintro e w3 ⟨v3, rfl, hv3, hb3⟩; obtain ⟨vao3, vcap3, rfl⟩ := owns_form hv3)
    | (go_at_call 117; refine (lawSameTexts T _ _ _ w3.heap.size (reads_of_owns (owns_below hvo hb3 (Nat.le_refl _))) (reads_of_owns hv3) ?_).mono ?_; exact Nat.le_trans hTl (by decide); rintro e w4 ⟨rfl, hb4⟩)
    | (go_at_call 118; refine (sup_keep hLa hKa hdK hd2 hLn hLt sp.b st hbw (only_of_below hb2 OX) hvo (hb3.trans (hb4.mono hb3.size)) (Nat.le_trans hTl (by decide))).mono ?_; rintro e w5 ⟨rfl, hkp⟩))
  go_ret
  exact ⟨rfl, (sup_post sp.b st ok hl hd2 hbw (only_of_below hb2 OX) (st.below sp.b hbw2).c (Grows.refl _ _) (fun k e => ⟨Nat.le_trans hbw.size (hvo.lt k e).1, (hvo.lt k e).2, fun e2 => (by have h1 := hlt k e2; have h2 := (hvo.lt k e).1; have h3 := hbw.size; omega)⟩) (hb3.trans (hb4.mono hb3.size)) (by decide) (by decide) hkp).1⟩

theorem tw_stillX {I : (Nat → Prop) → World → Nat → CopS → Prop} {cF cT : Nat} (sp : CopseSpec I cF cT) {w w1 : World} {tb x r N : Nat} {C : CopS} {S : RefS} {l : List (Nat × Tab)} {av : Value} {OT OX OR : Nat → Prop} (h : TwSt I w tb x r C S l av OT OX OR) (ok : TwOk cF cT N C S l) (hb : Below w.heap.size w w1) : TwPostX I cF cT w tb (N + 1) (Un OT OX OR) S (l.map Prod.snd) w1 :=
  ⟨only_of_below hb _, Un OT OX OR, ⟨x, r, C, l, av, OT, OX, OR, h.below sp hb, ok.mono (Nat.le_succ N), fun b => Iff.rfl, rfl⟩, Grows.refl _ _⟩

set_option maxHeartbeats 4000000 in
set_option maxRecDepth 20000 in
theorem orders_live {I : (Nat → Prop) → World → Nat → CopS → Prop} {cF cT : Nat} (sp : CopseSpec2 I cF cT) {w : World} {tb x r N : Nat} {C : CopS} {S : RefS} {l : List (Nat × Tab)} {av : Value} {OT OX OR : Nat → Prop} (st : TwSt I w tb x r C S l av OT OX OR) (ok : TwOk cF cT N C S l) (hN : N ≤ 3000000)
    (o : OpS) (fv : Value) (ho : OpOk w o fv) (hk : o.kind = 11) (wb : Nat) :
    Calls Tryz.prog 66 #[.pointer (some ⟨wb, 0, none⟩), .pointer (some ⟨tb, 0, none⟩), opv o fv] w fun e w' => e = .returned (.bool true) ∧ TwPostX I cF cT w tb (N + 1) (Un OT OX OR) S (l.map Prod.snd) w' := by
  obtain ⟨fao, fcap, rfl⟩ := reads_form ho.f
  obtain ⟨kd, on, oa, ov, F, os⟩ := o
  dsimp only at hk
  subst hk
  have htl := st.t.lt tb st.t.self
  have hX : w.cell? ⟨tb, 0, none⟩ = some (.pointer (some ⟨x, 0, none⟩)) := by rw [cell_of_heap st.t.cells]; rfl
  have hRp : w.cell? ⟨tb, 1, none⟩ = some (.pointer (some ⟨r, 0, none⟩)) := by rw [cell_of_heap st.t.cells]; rfl
  have hbw := (Below.refl w.heap.size w).alloc (Nat.le_refl _) (.cells #[.int .i64 11, .int .i64 on, .int .i64 oa, .bool ov, .slice fao F.length fcap, .string os] 66)
  have hbl := Below.refl (w.heap.size + 1) (w.alloc (.cells #[.int .i64 11, .int .i64 on, .int .i64 oa, .bool ov, .slice fao F.length fcap, .string os] 66))
  have hsz : w.heap.size + 1 ≤ (w.alloc (.cells #[.int .i64 11, .int .i64 on, .int .i64 oa, .bool ov, .slice fao F.length fcap, .string os] 66)).heap.size := by simp
  have hlive := fun wq (hc : I OX wq x C) => sp.live hc S.live ok.lists
  have href := fun wq (hq : RefIs OR wq r S) => refSize_is hq (ok.ref hN)
  rw [ok.order] at hlive
  generalize (allT S.order S.live).length = m at hlive href
  clear ho
  unfold opv
  dsimp only
  go_enter Tryz.func66, Tryz.ntmps66
  go_wp2_with (first
    | (go_at_call 21; refine (hlive _ (st.below sp.b hbw).c).mono ?_; clear hlive; rintro e w2 ⟨rfl, hq⟩; replace hq := hq.symm; subst hq)
    | (go_at_call 122; refine (href _ (st.below sp.b hbw).s).mono ?_; clear href; rintro e w3 ⟨rfl, hb3⟩))
  go_ret
  exact ⟨rfl, tw_stillX sp.b st ok (hbw.trans (hb3.mono hbw.size))⟩

set_option maxHeartbeats 4000000 in
set_option maxRecDepth 20000 in
theorem orders_sift {I : (Nat → Prop) → World → Nat → CopS → Prop} {cF cT : Nat} (sp : CopseSpec2 I cF cT) {w : World} {tb x r N : Nat} {C : CopS} {S : RefS} {l : List (Nat × Tab)} {av : Value} {OT OX OR : Nat → Prop} (st : TwSt I w tb x r C S l av OT OX OR) (ok : TwOk cF cT N C S l) (hN : N ≤ 3000000)
    (o : OpS) (fv : Value) (ho : OpOk w o fv) (hk : o.kind = 14) (wb : Nat) :
    Calls Tryz.prog 66 #[.pointer (some ⟨wb, 0, none⟩), .pointer (some ⟨tb, 0, none⟩), opv o fv] w fun e w' => e = .returned (.bool true) ∧ TwPostX I cF cT w tb (N + 1) (Un OT OX OR) { S with order := siftN S.order S.names.length S.live S.names.length } (l.map Prod.snd) w' := by
  obtain ⟨fao, fcap, rfl⟩ := reads_form ho.f
  obtain ⟨kd, on, oa, ov, F, os⟩ := o
  dsimp only at hk
  subst hk
  have htl := st.t.lt tb st.t.self
  have hX : w.cell? ⟨tb, 0, none⟩ = some (.pointer (some ⟨x, 0, none⟩)) := by rw [cell_of_heap st.t.cells]; rfl
  have hRp : w.cell? ⟨tb, 1, none⟩ = some (.pointer (some ⟨r, 0, none⟩)) := by rw [cell_of_heap st.t.cells]; rfl
  have hbw := (Below.refl w.heap.size w).alloc (Nat.le_refl _) (.cells #[.int .i64 14, .int .i64 on, .int .i64 oa, .bool ov, .slice fao F.length fcap, .string os] 66)
  have hbl := Below.refl (w.heap.size + 1) (w.alloc (.cells #[.int .i64 14, .int .i64 on, .int .i64 oa, .bool ov, .slice fao F.length fcap, .string os] 66))
  have hsz : w.heap.size + 1 ≤ (w.alloc (.cells #[.int .i64 14, .int .i64 on, .int .i64 oa, .bool ov, .slice fao F.length fcap, .string os] 66)).heap.size := by simp
  have hnd := ok.nodup sp st.c
  have hsift := fun wq (hc : I OX wq x C) => sp.sift hc S.live ok.lists
  have href := fun wq (hq : RefIs OR wq r S) => refSift hq (ok.ref hN) hnd
  rw [ok.order, ok.names] at hsift
  have hperm : (siftN S.order S.names.length S.live S.names.length).Perm S.order := siftN_perm S.live _ (fun v hv => (hnd.2 v).2 hv)
  have ok' := ok.reorder hperm
  rw [ok.names] at ok'
  generalize siftN S.order S.names.length S.live S.names.length = o' at hsift href ok' ⊢
  clear ho hperm hnd
  unfold opv
  dsimp only
  go_enter Tryz.func66, Tryz.ntmps66
  go_wp2_with (first
    | (go_at_call 124; refine (hsift _ (st.below sp.b hbw).c).mono ?_; clear hsift; rintro e w2 ⟨rfl, hsc⟩; obtain ⟨OX2, st2, ho2, hg2⟩ := (st.below sp.b hbw).stepC sp.b hsc; have hr2 : w2.cell? ⟨tb, 1, none⟩ = some (.pointer (some ⟨r, 0, none⟩)) := (by rw [cell_of_heap st2.t.cells]; rfl))
    | (go_at_call 125; refine (href _ st2.s).mono ?_; clear href; rintro e w3 ⟨rfl, hsr⟩))
  go_ret
  exact ⟨rfl, tw_both sp.b st hbw hsc hsr ok'⟩

end Go.Proofs.YtebfmcafmojlaaaGreatDoor

/-
  copselaw.World: orders: Move.
-/
namespace Go.Proofs.YtebfmcafmojlaaaGreatDoor
open Go.RowKit
set_option linter.unusedSimpArgs false
set_option linter.unusedVariables false

set_option maxHeartbeats 4000000 in
set_option maxRecDepth 20000 in
theorem orders_move_at {I : (Nat → Prop) → World → Nat → CopS → Prop} {cF cT : Nat} (sp : CopseSpec2 I cF cT) {w : World} {tb x r N : Nat} {C : CopS} {S : RefS} {l : List (Nat × Tab)} {av : Value} {OT OX OR : Nat → Prop} (st : TwSt I w tb x r C S l av OT OX OR) (ok : TwOk cF cT N C S l) (hN : N ≤ 3000000)
    (o : OpS) (fv : Value) (ho : OpOk w o fv) (hk : o.kind = 13) (wb : Nat) {ez : Int} {C' : CopS} {S' : RefS} (ok' : TwOk cF cT N C' S' l) (hmv : ∀ wq, I OX wq x C → Calls Tryz.prog 16 #[.pointer (some ⟨x, 0, none⟩), .string o.s, .int .i64 o.a] wq fun e w' => e = .returned (.int .i64 ez) ∧ CopStep I OX wq x w' C') (href : ∀ wq, RefIs OR wq r S → Calls Tryz.prog 123 #[.pointer (some ⟨r, 0, none⟩), .string o.s, .int .i64 o.a] wq fun e w' => e = .returned (.int .i64 ez) ∧ RefStep OR wq r w' S') :
    Calls Tryz.prog 66 #[.pointer (some ⟨wb, 0, none⟩), .pointer (some ⟨tb, 0, none⟩), opv o fv] w fun e w' => e = .returned (.bool true) ∧ TwPostX I cF cT w tb (N + 1) (Un OT OX OR) S' (l.map Prod.snd) w' := by
  obtain ⟨fao, fcap, rfl⟩ := reads_form ho.f
  obtain ⟨kd, on, oa, ov, F, os⟩ := o
  dsimp only at hk
  subst hk
  have htl := st.t.lt tb st.t.self
  have hX : w.cell? ⟨tb, 0, none⟩ = some (.pointer (some ⟨x, 0, none⟩)) := by rw [cell_of_heap st.t.cells]; rfl
  have hRp : w.cell? ⟨tb, 1, none⟩ = some (.pointer (some ⟨r, 0, none⟩)) := by rw [cell_of_heap st.t.cells]; rfl
  have hbw := (Below.refl w.heap.size w).alloc (Nat.le_refl _) (.cells #[.int .i64 13, .int .i64 on, .int .i64 oa, .bool ov, .slice fao F.length fcap, .string os] 66)
  have hbl := Below.refl (w.heap.size + 1) (w.alloc (.cells #[.int .i64 13, .int .i64 on, .int .i64 oa, .bool ov, .slice fao F.length fcap, .string os] 66))
  have hsz : w.heap.size + 1 ≤ (w.alloc (.cells #[.int .i64 13, .int .i64 on, .int .i64 oa, .bool ov, .slice fao F.length fcap, .string os] 66)).heap.size := by simp
  dsimp only at hmv href
  clear ho
  unfold opv
  dsimp only
  go_enter Tryz.func66, Tryz.ntmps66
  go_wp2_with fail
  go_region_held (fun w' => w'.cell? ⟨tb, 0, none⟩ = some (.pointer (some ⟨x, 0, none⟩)) ∧ w'.cell? ⟨w.heap.size, 5, none⟩ = some (.string os) ∧ w'.cell? ⟨w.heap.size, 2, none⟩ = some (.int .i64 oa)) (go_keep) (first | (go_at_call 16; refine (hmv _ (st.below sp.b hbw.drew).c).mono ?_; rintro e w2 ⟨rfl, hsc⟩; obtain ⟨OX2, st2, ho2, hg2⟩ := (st.below sp.b hbw.drew).stepC sp.b hsc; have hx2 : w2.cell? ⟨tb, 0, none⟩ = some (.pointer (some ⟨x, 0, none⟩)) := (by rw [cell_of_heap st2.t.cells]; rfl); have hr2 : w2.cell? ⟨tb, 1, none⟩ = some (.pointer (some ⟨r, 0, none⟩)) := (by rw [cell_of_heap st2.t.cells]; rfl); obtain ⟨d0, d1, d2, d3, d4, d5⟩ := box_only sp.b st.c hbl.drew hsz ho2))
  go_wp2_with fail
  go_region_held (fun w' => w'.cell? ⟨tb, 1, none⟩ = some (.pointer (some ⟨r, 0, none⟩)) ∧ w'.cell? ⟨w.heap.size, 5, none⟩ = some (.string os) ∧ w'.cell? ⟨w.heap.size, 2, none⟩ = some (.int .i64 oa)) (go_keep) (first | (go_at_call 123; refine (href _ st2.s.drew).mono ?_; rintro e w3 ⟨rfl, hsr⟩; obtain ⟨OR3, st3, ho3, hg3⟩ := st2.stepS sp.b hsr.undrew; have hr3 : w3.cell? ⟨tb, 1, none⟩ = some (.pointer (some ⟨r, 0, none⟩)) := (by rw [cell_of_heap st3.t.cells]; rfl); have g5 := (ref_cell st.s.lt (Nat.lt_of_lt_of_le (Nat.lt_of_succ_le hsz) ho2.size) hsr 5).trans d5; have g2 := (ref_cell st.s.lt (Nat.lt_of_lt_of_le (Nat.lt_of_succ_le hsz) ho2.size) hsr 2).trans d2))
  go_wp2_with (first
    | (go_at_call 103; refine (lawNum _ _).mono ?_; rintro e w9 ⟨rfl, hq⟩; replace hq := hq.symm; subst hq))
  go_ret
  exact ⟨rfl, tw_both sp.b st hbw.drew hsc hsr.undrew ok'⟩

/-- Where Move goes: the error, the order behind it. -/
noncomputable def moveR (S : RefS) (name : ByteArray) (t : Int) : Int × RefS :=
  match S.names.findIdx? (fun y => y.toList == name.toList) with
  | none => (2, S)
  | some v => if t < 0 ∨ (S.names.length : Int) ≤ t then (1, S) else if S.cap < ((allT (moveO S.order v t.toNat) S.live).length : Int) then (5, S) else (0, { S with order := moveO S.order v t.toNat })

theorem findIdx_lt {l : List ByteArray} {p : ByteArray → Bool} {v : Nat} (h : l.findIdx? p = some v) : v < l.length := by
  rw [List.findIdx?_eq_some_iff_getElem] at h
  exact h.1

theorem orders_move {I : (Nat → Prop) → World → Nat → CopS → Prop} {cF cT : Nat} (sp : CopseSpec2 I cF cT) {w : World} {tb x r N : Nat} {C : CopS} {S : RefS} {l : List (Nat × Tab)} {av : Value} {OT OX OR : Nat → Prop} (st : TwSt I w tb x r C S l av OT OX OR) (ok : TwOk cF cT N C S l) (hN : N ≤ 3000000)
    (o : OpS) (fv : Value) (ho : OpOk w o fv) (hk : o.kind = 13) (wb : Nat) :
    Calls Tryz.prog 66 #[.pointer (some ⟨wb, 0, none⟩), .pointer (some ⟨tb, 0, none⟩), opv o fv] w fun e w' => e = .returned (.bool true) ∧ TwPostX I cF cT w tb (N + 1) (Un OT OX OR) (moveR S o.s o.a).2 (l.map Prod.snd) w' := by
  have hnd := ok.nodup sp st.c
  have okr := ok.ref hN
  have hcn := ok.names
  have hon := ok.on
  cases hv : S.names.findIdx? (fun y => y.toList == o.s.toList) with
  | none =>
    have e : moveR S o.s o.a = (2, S) := by unfold moveR; rw [hv]
    have hn : namedI S.names o.s = -1 := by unfold namedI; rw [hv]
    rw [e]
    exact orders_move_at sp st ok hN o fv ho hk wb (ez := 2) ok (fun wq hc => sp.move_name hc o.s o.a (by rw [hcn]; exact hn)) (fun wq hq => refMove_name hq okr o.s o.a hn)
  | some v =>
    have hn : namedI S.names o.s = (v : Int) := by unfold namedI; rw [hv]
    have hvl := findIdx_lt hv
    have hvo : v ∈ S.order := (hnd.2 v).2 hvl
    by_cases h1 : o.a < 0 ∨ (S.names.length : Int) ≤ o.a
    · have e : moveR S o.s o.a = (1, S) := by unfold moveR; rw [hv]; simp only; rw [if_pos h1]
      rw [e]
      exact orders_move_at sp st ok hN o fv ho hk wb (ez := 1) ok (fun wq hc => sp.move_arg hc o.s o.a ho.a (by rw [hcn, hn]; omega) (by rw [hcn]; exact h1)) (fun wq hq => refMove_arg hq okr o.s o.a ho.a (by rw [hn]; omega) (by rw [hon]; exact h1))
    · obtain ⟨t, ht⟩ : ∃ t : Nat, o.a = (t : Int) := ⟨o.a.toNat, by omega⟩
      have htl : t < S.names.length := by omega
      have hc := fun wq (hc : I OX wq x C) => sp.move hc S.live ok.lists o.s v t (by rw [hcn]; exact hv) (by rw [hcn]; exact htl)
      have hr := fun wq (hq : RefIs OR wq r S) => refMove hq okr hnd.1 o.s v t hn hvo (by rw [hon]; exact htl)
      rw [ok.cap, ok.order] at hc
      rw [← ht] at hc hr
      by_cases h2 : S.cap < ((allT (moveO S.order v t) S.live).length : Int)
      · have e : moveR S o.s o.a = (5, S) := by unfold moveR; rw [hv]; simp only; rw [if_neg h1, ht, Int.toNat_natCast, if_pos h2]
        rw [e]
        refine orders_move_at sp st ok hN o fv ho hk wb (ez := 5) ok (fun wq h => (hc wq h).mono ?_) (fun wq h => (hr wq h).mono ?_)
        · rintro e w' (⟨_, h3⟩ | ⟨h3, _⟩)
          · exact h3
          · exact absurd h2 h3
        · rintro e w' (⟨_, h3⟩ | ⟨h3, _⟩)
          · exact h3
          · exact absurd h2 h3
      · have e : moveR S o.s o.a = (0, { S with order := moveO S.order v t }) := by unfold moveR; rw [hv]; simp only; rw [if_neg h1, ht, Int.toNat_natCast, if_neg h2]
        rw [e]
        have okm := ok.reorder (moveO_perm2 (t := t) hvo)
        rw [ok.cap] at okm
        refine orders_move_at sp st ok hN o fv ho hk wb (ez := 0) okm (fun wq h => (hc wq h).mono ?_) (fun wq h => (hr wq h).mono ?_)
        · rintro e w' (⟨h3, _⟩ | ⟨_, h3⟩)
          · exact absurd h3 h2
          · exact h3
        · rintro e w' (⟨h3, _⟩ | ⟨_, h3⟩)
          · exact absurd h3 h2
          · exact h3

end Go.Proofs.YtebfmcafmojlaaaGreatDoor

/-
  append to a slice that is cut from the beginning of a block (and full there), or is the call's own: the answer is the call's own.
-/
namespace Go.Proofs.YtebfmcafmojlaaaGreatDoor
open Go.RowKit
set_option linter.unusedSimpArgs false
set_option linter.unusedVariables false

/-- Cut from the beginning of block g, below B, and full; or a row of blocks from B on. -/
def RowL (B g : Nat) (w : World) (e : TypeId) (size : Nat) (v : Value) (n : Nat) (xs : List Value) : Prop :=
  w.ownsRow B e size v n xs ∨ (xs.length = n * size ∧ v = .slice (some ⟨g, 0, none⟩) n n ∧ g < B ∧ ∀ j u, xs[j]? = some u → w.cell? ⟨g, j, none⟩ = some u)

theorem RowL.form {B g : Nat} {w : World} {e : TypeId} {size : Nat} {v : Value} {n : Nat} {xs : List Value} (h : RowL B g w e size v n xs) : ∃ ao cap, v = .slice ao n cap := by
  rcases h with h | ⟨_, rfl, _⟩
  · exact owns_form h
  · exact ⟨_, _, rfl⟩

theorem RowL.below {B g : Nat} {w w' : World} {e : TypeId} {size : Nat} {v : Value} {n : Nat} {xs : List Value} (h : RowL B g w e size v n xs) (hb : Below w.heap.size w w') (hB : B ≤ w.heap.size) : RowL B g w' e size v n xs := by
  rcases h with h | ⟨h1, h2, h3, h4⟩
  · exact .inl (owns_below h hb (Nat.le_refl _))
  · exact .inr ⟨h1, h2, h3, fun j u hj => (hb.cell (p := ⟨g, j, none⟩) (by show g < _; omega)).trans (h4 j u hj)⟩

theorem RowL.alloc {B g : Nat} {w : World} {e : TypeId} {size : Nat} {v : Value} {n : Nat} {xs : List Value} (h : RowL B g w e size v n xs) (hB : B ≤ w.heap.size) (o : Obj) : RowL B g (w.alloc o) e size v n xs :=
  h.below ((Below.refl _ _).alloc (Nat.le_refl _) _) hB

theorem RowL.sameB {B g : Nat} {w w' : World} {e : TypeId} {size : Nat} {v : Value} {n : Nat} {xs : List Value} (h : RowL B g w e size v n xs) (hb : Below B w w') (hk : ∀ k, v.ownBlock = some k → B ≤ k → w'.heap[k]? = w.heap[k]?) : RowL B g w' e size v n xs := by
  rcases h with h | ⟨h1, h2, h3, h4⟩
  · exact .inl (owns_same h (fun k e => hk k e (h.lt k e).1))
  · exact .inr ⟨h1, h2, h3, fun j u hj => (hb.cell (p := ⟨g, j, none⟩) h3).trans (h4 j u hj)⟩

theorem run_append_left {P : Program} (w : World) (B g : Nat) (t ty e : TypeId) (i : TypeInfo) (z : Value) (size bytes : Nat) (ht : P.underlying t = some (.slice e)) (hi : P.info? e = some i) (hz : i.zero = some z)
    (hsize : i.size = size) (hby : i.bytes = bytes) (hzs : z.cells.size = size) (hsz : 0 < size)
    (v : Value) (n : Nat) (xs : List Value) (hown : RowL B g w e size v n xs) (hB : B ≤ w.heap.size)
    (a : Addr) (m c : Nat) (hm : 0 < m) (news : List Value) (hl : news.length = m * size) (hnews : ∀ j u, news[j]? = some u → w.cell? (a.add j) = some u) (h1 : ∀ u ∈ news, u.oneCell' = true)
    (h63 : n + m ≤ maxLen) (hbytes : (n + m) * bytes ≤ 140737488355328) :
    ∃ v' w', (Builtin.append_ #[t, t] ty #[v, .slice (some a) m c]).run P w = .ok v' w' ∧ w'.ownsRow B e size v' (n + m) (xs ++ news) ∧ Below B w w' ∧ (∀ k, B ≤ k → k < w.heap.size → v.ownBlock ≠ some k → w'.heap[k]? = w.heap[k]?) ∧ Placed w v v' := by
  rcases hown with hown | ⟨hlx, rfl, hgB, h2⟩
  · obtain ⟨v', w', hr, ho, hg, hp⟩ := run_append_placed w B t ty e i z size bytes ht hi hz hsize hby hzs hsz v n xs hown a m c news hl hnews h1 h63 hbytes hB
    exact ⟨v', w', hr, ho, (Below.refl B w).grown hg hB (fun k hk => (hown.lt k hk).1), fun k _ hk hne => hg.block k hk (fun e => hne e.symm), hp⟩
  · obtain ⟨v', w', hr, ho, hg⟩ := run_append_arg_grows (P := P) (w := w) t ty e i z size bytes ht hi hz hsize hby hzs hsz ⟨g, 0, none⟩ n n xs hlx (by
      intro j u hj
      have := h2 j u hj
      simpa [Addr.add_lit] using this) a m c news hl hnews (by omega) h63 hbytes
    refine ⟨v', w', hr, ownsRow_base ho hB, (grown_nil hg).mono hB, fun k _ hk _ => hg.block k hk (by simp), ?_⟩
    intro k hk
    exact .inr (ho.lt k hk).1

theorem wpList_append_left {P : Program} {w : World} {ops : Array Oper} {rest : List Oper} {o : Oper} {a : Act} {Q : Exit → Act → World → Prop} (hgd : o.guard = none) (s x : Operand) (t : TypeId)
    (ho : o.op = .call { callee := .builtin .append, args := #[s, x], argTypes := #[t, t] })
    (B g : Nat) (e : TypeId) (i : TypeInfo) (z : Value) (size bytes : Nat) (ht : P.underlying t = some (.slice e)) (hi : P.info? e = some i) (hz : i.zero = some z)
    (hsize : i.size = size) (hby : i.bytes = bytes) (hzs : z.cells.size = size) (hsz : 0 < size)
    (v : Value) (n : Nat) (xs : List Value) (hs : a.eval s = v) (hown : RowL B g w e size v n xs) (hB : B ≤ w.heap.size)
    (ad : Addr) (m c : Nat) (hm : 0 < m) (news : List Value) (hx : a.eval x = .slice (some ad) m c) (hl : news.length = m * size) (hnews : ∀ j u, news[j]? = some u → w.cell? (ad.add j) = some u) (h1 : ∀ u ∈ news, u.oneCell' = true)
    (h63 : n + m ≤ maxLen) (hbytes : (n + m) * bytes ≤ 140737488355328)
    (h : ∀ v' w', w'.ownsRow B e size v' (n + m) (xs ++ news) → Below B w w' → (∀ k, B ≤ k → k < w.heap.size → v.ownBlock ≠ some k → w'.heap[k]? = w.heap[k]?) → Placed w v v' → wpList P ops Q rest (a.put o.dst v') w') : wpList P ops Q (o :: rest) a w := by
  refine wpList_plain hgd fun K hK => ?_
  obtain ⟨v', w', hr, h2, h3, h4, h5⟩ := run_append_left (P := P) w B g t o.type e i z size bytes ht hi hz hsize hby hzs hsz v n xs hown hB ad m c hm news hl hnews h1 h63 hbytes
  unfold Oper.wp execOp
  simp only [ho, resolve, invoke, builtin, Sem.run_bind, Sem.run_pure, Result.andThen_ok, List.map_toArray, List.map_cons, List.map_nil, hs, hx, hr]
  exact hK _ _ (h v' w' h2 h3 h4 h5)

end Go.Proofs.YtebfmcafmojlaaaGreatDoor

/-
  copselaw.World: collect: what stands behind it.
-/
namespace Go.Proofs.YtebfmcafmojlaaaGreatDoor
open Go.RowKit
set_option linter.unusedSimpArgs false
set_option linter.unusedVariables false

def collT (cF cT : Nat) (T : Nat → Option Tab) (hs : List Nat) : Nat → Option Tab := fun r => if r = cF ∨ r = cT ∨ r ∈ hs then T r else none

theorem collT_iff {cF cT : Nat} {T : Nat → Option Tab} {hs : List Nat} {r : Nat} {f : Tab} : collT cF cT T hs r = some f ↔ (r = cF ∨ r = cT ∨ r ∈ hs) ∧ T r = some f := by
  unfold collT
  split
  · rename_i h; simp [h]
  · rename_i h; simp [h]

theorem collT_eq {cF cT : Nat} {T T' : Nat → Option Tab} {hs : List Nat} (h : ∀ r f, T' r = some f ↔ (r = cF ∨ r = cT ∨ r ∈ hs) ∧ T r = some f) : T' = collT cF cT T hs := by
  funext r
  cases h1 : T' r with
  | none =>
    cases h2 : collT cF cT T hs r with
    | none => rfl
    | some f =>
      have := (h r f).2 (collT_iff.1 h2)
      rw [h1] at this
      cases this
  | some f => exact (collT_iff.2 ((h r f).1 h1)).symm

/-- What Collect answers to the handles of a step. -/
theorem coll_any {I : (Nat → Prop) → World → Nat → CopS → Prop} {cF cT : Nat} (sp : CopseSpec2 I cF cT) {N x : Nat} {C : CopS} {S : RefS} {l : List (Nat × Tab)} {OX : Nat → Prop} (ok : TwOk cF cT N C S l) (F : List Int) (hFl : F.length ≤ 2000000) :
    ∃ (ez : Int) (C' : CopS), (∀ (wq : World) (fv : Value), I OX wq x C → Reads wq.heap.size wq fv ((sevHs l F F.length).map zv) → (∀ ad n c, fv = .slice (some ad) n c → ¬ OX ad.block) → Calls Tryz.prog 71 #[.pointer (some ⟨x, 0, none⟩), fv] wq fun e w' => e = .returned (.int .i64 ez) ∧ CopStep I OX wq x w' C') ∧
      ((sevOk l F F.length = true ∧ ez = 0 ∧ ∃ hs : List Nat, C' = { C with T := collT cF cT C.T hs } ∧ hs.map C.T = (sevTs l F F.length).map some) ∨ (sevOk l F F.length = false ∧ ez = 4 ∧ C' = C)) := by
  cases hok : sevOk l F F.length
  · refine ⟨4, C, ?_, .inr ⟨rfl, rfl, rfl⟩⟩
    intro wq fv hc hr hfo
    refine sp.coll_no hc (sevHs l F F.length) fv hr (by rw [sevHs_len]; exact hFl) ?_ ?_
    · intro z hz
      obtain ⟨i, hi, rfl⟩ := List.mem_map.1 hz
      exact sev_ok ok F i (by have := List.mem_range.1 hi; omega)
    · unfold sevOk at hok
      rw [List.all_eq_false] at hok
      obtain ⟨i, hi, hb⟩ := hok
      exact ⟨sevH l F i, List.mem_map.2 ⟨i, hi, rfl⟩, sev_lt F i (by simpa using hb)⟩
  · have hall : ∀ i, i < F.length → sevB l F i = true := by
      unfold sevOk at hok
      rw [List.all_eq_true] at hok
      exact fun i hi => hok i (List.mem_range.2 hi)
    have h1 : (sevHs l F F.length).map zv = ((List.range F.length).map (fun i => (sevH l F i).toNat)).map intv := by
      unfold sevHs
      rw [List.map_map, List.map_map]
      apply List.map_congr_left
      intro i hi
      obtain ⟨hd, e, _, _⟩ := sev_true ok F i (hall i (List.mem_range.1 hi))
      simp [zv, intv, e]
    have h2 : ((List.range F.length).map (fun i => (sevH l F i).toNat)).map C.T = (sevTs l F F.length).map some := by
      unfold sevTs
      rw [List.map_map, List.map_map]
      apply List.map_congr_left
      intro i hi
      obtain ⟨hd, e, hT, _⟩ := sev_true ok F i (hall i (List.mem_range.1 hi))
      simp [e, hT]
    refine ⟨0, _, ?_, .inl ⟨rfl, rfl, _, rfl, h2⟩⟩
    intro wq fv hc hr hfo
    rw [h1] at hr
    refine (sp.coll hc _ fv ?_ hr hfo (by simpa using hFl)).mono ?_
    · intro y hy
      obtain ⟨i, hi, rfl⟩ := List.mem_map.1 hy
      obtain ⟨hd, e, hT, _⟩ := sev_true ok F i (hall i (List.mem_range.1 hi))
      exact ⟨_, by rw [e]; exact hT⟩
    · rintro e w' ⟨he, T', hT', hs⟩
      rw [collT_eq hT'] at hs
      exact ⟨he, hs⟩

/-- Behind a list that the program was handed, and that was kept by its owner: the World, and the twin whose copse has turned. -/
structure KeptMid (I : (Nat → Prop) → World → Nat → CopS → Prop) (w w5 : World) (tb x r : Nat) (C' : CopS) (S : RefS) (l : List (Nat × Tab)) (av : Value) (OT OX OR OX' : Nat → Prop) (wb : Nat) (L : LawS) (OL K OL' K' : Nat → Prop) (L' : LawS) : Prop where
  law : LawIs OL' K' w5 wb L'
  tbs : L'.tbs = L.tbs
  tl : L'.texts.length ≤ L.texts.length + 4
  il : L'.ints.length ≤ L.ints.length + 4
  nn : L'.n ≤ L.n + 1
  gL : Grows w OL OL'
  gK : ∀ b, K' b → K b ∨ w.heap.size ≤ b
  dd : ∀ b, Un OT OX' OR b → ¬ OL' b ∧ ¬ K' b
  only : Only (fun b => OL b ∨ Un OT OX OR b) w w5
  gU : Grows w (Un OT OX OR) (Un OT OX' OR)
  st : TwSt I w5 tb x r C' S l av OT OX' OR

theorem kept_mid {I : (Nat → Prop) → World → Nat → CopS → Prop} {cF cT : Nat} (sp : CopseSpec I cF cT) {w w1 w2 w4 w5 : World} {tb x r : Nat} {C C' : CopS} {S : RefS} {l : List (Nat × Tab)} {av : Value} {OT OX OR : Nat → Prop} (st : TwSt I w tb x r C S l av OT OX OR)
    {wb : Nat} {L : LawS} {OL K : Nat → Prop} (hl : LawIs OL K w wb L) (hd : ∀ b, Un OT OX OR b → ¬ OL b ∧ ¬ K b) (hb : Below w.heap.size w w1) (ho : Only OX w1 w2) {OX' : Nat → Prop} (hc : I OX' w2 x C') (hg : Grows w1 OX OX')
    {v : Value} (hv : ∀ k, v.ownBlock = some k → w.heap.size ≤ k ∧ k < w2.heap.size ∧ ¬ OX' k) (hb4 : Below w2.heap.size w2 w4) {nt ni : Nat} (hnt : nt ≤ 4) (hni : ni ≤ 4) (hk : KeepLPost OL K w4 wb L v w5 nt ni) :
    ∃ OL' K' L', KeptMid I w w5 tb x r C' S l av OT OX OR OX' wb L OL K OL' K' L' := by
  obtain ⟨OL', K', L', hl', e1, e2, e3, e4, hoL, hgL, hK'⟩ := hk
  have hs1 := hb.size
  have hs2 := ho.size
  have hs4 := hb4.size
  obtain ⟨OX2, st2, _, _⟩ := (st.below sp hb).stepC sp ⟨ho, OX', hc, hg⟩
  have hst2 : TwSt I w2 tb x r C' S l av OT OX' OR := by
    refine ⟨st2.t, hc, st2.s, ?_, st.d2, ?_⟩
    · intro b hb' hx
      rcases hg b hx with e | e
      · exact st.d1 b hb' e
      · have := st.t.lt b hb'; omega
    · intro b hx hb'
      rcases hg b hx with e | e
      · exact st.d3 b e hb'
      · have := st.s.lt b hb'; omega
  have st4 := hst2.below sp hb4
  have hsame : ∀ b, Un OT OX' OR b → b < w4.heap.size ∧ ¬ OL b ∧ ¬ K b ∧ v.ownBlock ≠ some b := by
    intro b hb'
    have hlt : b < w4.heap.size := by
      rcases hb' with e | e | e
      · exact st4.t.lt b e
      · exact sp.lt st4.c b e
      · exact st4.s.lt b e
    refine ⟨hlt, ?_, ?_, ?_⟩
    · intro eL
      have := hl.lt b (.inl eL)
      rcases hb' with e | e | e
      · exact (hd b (.inl e)).1 eL
      · rcases hg b e with e | e
        · exact (hd b (.inr (.inl e))).1 eL
        · omega
      · exact (hd b (.inr (.inr e))).1 eL
    · intro eL
      have := hl.lt b (.inr eL)
      rcases hb' with e | e | e
      · exact (hd b (.inl e)).2 eL
      · rcases hg b e with e | e
        · exact (hd b (.inr (.inl e))).2 eL
        · omega
      · exact (hd b (.inr (.inr e))).2 eL
    · intro ev
      have h3 := hv b ev
      rcases hb' with e | e | e
      · have := st.t.lt b e; omega
      · exact h3.2.2 e
      · have := st.s.lt b e; omega
  have hkeep : ∀ b, Un OT OX' OR b → w5.heap[b]? = w4.heap[b]? := fun b hb' => hoL.block b (hsame b hb').1 (fun e => e.elim (hsame b hb').2.1 (hsame b hb').2.2.2)
  have st5 : TwSt I w5 tb x r C' S l av OT OX' OR := ⟨st4.t.keep hoL.size (fun k hk => hkeep k (.inl hk)), sp.keep st4.c hoL.size (fun k hk => hkeep k (.inr (.inl hk))), st4.s.keep hoL.size (fun k hk => hkeep k (.inr (.inr hk))), hst2.d1, hst2.d2, hst2.d3⟩
  refine ⟨OL', K', L', ⟨hl', e1, by omega, by omega, by omega, ?_, ?_, ?_, ?_, ?_, st5⟩⟩
  · intro b hb'
    rcases hgL b hb' with e | e
    · exact .inl e
    · exact .inr (by omega)
  · intro b hb'
    rcases hK' b hb' with e | e | e
    · exact .inl e
    · have := hv b e; exact .inr (by omega)
    · exact .inr (by omega)
  · intro b hb'
    have h4 := hsame b hb'
    refine ⟨?_, ?_⟩
    · intro e
      rcases hgL b e with e | e
      · exact h4.2.1 e
      · omega
    · intro e
      rcases hK' b e with e | e | e
      · exact h4.2.2.1 e
      · exact h4.2.2.2 e
      · omega
  · have o1 : Only (fun b => OL b ∨ Un OT OX OR b) w w2 := (only_of_below hb _).trans (ho.mono (O' := fun b => OL b ∨ Un OT OX OR b) (fun b hb => .inr (.inr (.inl hb)))) (Grows.refl _ _)
    refine (o1.then_below hb4).trans hoL ?_
    intro b hb'
    rcases hb' with e | e
    · exact .inl (.inl e)
    · have := hv b e; exact .inr (by omega)
  · intro b hb'
    rcases hb' with e | e | e
    · exact .inl (.inl e)
    · rcases hg b e with e | e
      · exact .inl (.inr (.inl e))
      · exact .inr (by omega)
    · exact .inl (.inr (.inr e))

/-- The twin goes on from there. -/
theorem KeptMid.post {I : (Nat → Prop) → World → Nat → CopS → Prop} {cF cT : Nat} {w w5 w9 : World} {tb x r N : Nat} {C' : CopS} {S : RefS} {l : List (Nat × Tab)} {av : Value} {OT OX OR OX' : Nat → Prop} {wb : Nat} {L : LawS} {OL K OL' K' : Nat → Prop} {L' : LawS}
    (h : KeptMid I w w5 tb x r C' S l av OT OX OR OX' wb L OL K OL' K' L') (hp : TwPost I cF cT w5 tb N (Un OT OX' OR) w9) : AskPost I cF cT w tb N (Un OT OX OR) wb L OL K w9 := by
  obtain ⟨ho, O', ht, hg⟩ := hp
  refine ⟨OL', K', L', O', h.law.keep ho.size (fun b hb => ho.block b (h.law.lt b hb) (fun e => hb.elim (h.dd b e).1 (h.dd b e).2)), ht, ?_, h.tbs, h.tl, h.il, h.nn, h.gL, ?_, h.gK, ?_⟩
  · refine h.only.trans ho ?_
    intro b hb
    rcases h.gU b hb with e | e
    · exact .inl (.inr e)
    · exact .inr e
  · intro b hb
    rcases hg b hb with e | e
    · exact h.gU b e
    · exact .inr (Nat.le_trans h.only.size e)
  · intro b hb
    rcases hg b hb with e | e
    · exact h.dd b e
    · exact ⟨fun e2 => by have := h.law.lt b (.inl e2); omega, fun e2 => by have := h.law.lt b (.inr e2); omega⟩

theorem TwIs.post {I : (Nat → Prop) → World → Nat → CopS → Prop} {cF cT : Nat} {O : Nat → Prop} {w : World} {tb N : Nat} (h : TwIs I cF cT O w tb N) : TwPost I cF cT w tb N O w := ⟨Only.refl _ _, O, h, Grows.refl _ _⟩

theorem collL_succ (l : List (Nat × Tab)) (fs : List Tab) (k : Nat) (h2 : 2 ≤ k) (h : k < l.length) : collL (l.take (k + 1)) fs = collL (l.take k) fs ++ (if (l.getD k (0, 0)).2 ∈ fs then [l.getD k (0, 0)] else []) := by
  unfold collL
  have e : l.getD k (0, 0) = l[k] := by rw [List.getD_eq_getElem?_getD, List.getElem?_eq_getElem h]; rfl
  rw [List.take_succ_eq_append_getElem h, e, List.drop_append_of_le_length (by rw [List.length_take]; omega), List.filter_append]
  congr 1
  by_cases c : l[k].2 ∈ fs
  · simp [c]
  · simp [c]

theorem collL_len (l : List (Nat × Tab)) (fs : List Tab) (k : Nat) : (collL (l.take k) fs).length ≤ l.length := by
  unfold collL
  refine Nat.le_trans (List.length_filter_le _ _) ?_
  rw [List.length_drop, List.length_take]
  omega

theorem gots_app (a b : List (Nat × Tab)) : gots (a ++ b) = gots a ++ gots b := by unfold gots; rw [List.flatMap_append]
theorem gots_take (l : List (Nat × Tab)) (k : Nat) : (gots l).take (k * 2) = gots (l.take k) := by
  induction l generalizing k with
  | nil => simp [gots]
  | cons p l ih =>
    cases k with
    | zero => simp [gots]
    | succ k =>
      have := ih k
      have e : (k + 1) * 2 = k * 2 + 1 + 1 := by omega
      rw [e]
      simp only [gots, List.flatMap_cons, List.take_succ_cons, List.cons_append, List.nil_append] at this ⊢
      rw [this]

theorem RowC.cut {w : World} {g n cap : Nat} {l : List (Nat × Tab)} (h : RowC w 173 2 (.slice (some ⟨g, 0, none⟩) l.length cap) l.length (gots l)) (hn : n ≤ l.length) : l.length ≤ cap ∧ ∃ cur, w.heap[g]? = some (.cells cur 173 (0, 0)) ∧ cur.toList.take (n * 2) = gots (l.take n) := by
  rcases h with h | ⟨hl, g', cur, e, h2, h3⟩
  · rcases h.2 with ⟨e, _⟩ | ⟨g', cap', cur, e, _, hg, hnc, _, _, htake⟩
    · simp at e
    · simp only [Value.slice.injEq, Option.some.injEq, Addr.mk.injEq, and_true, true_and] at e
      obtain ⟨rfl, rfl⟩ := e
      refine ⟨hnc, cur, hg, ?_⟩
      rw [← gots_take, ← htake, List.take_take, Nat.min_eq_left (by omega)]
  · simp only [Value.slice.injEq, Option.some.injEq, Addr.mk.injEq, and_true, true_and] at e
    obtain ⟨rfl, rfl⟩ := e
    refine ⟨Nat.le_refl _, cur, h2, ?_⟩
    rw [← gots_take, ← h3, List.take_take, Nat.min_eq_left (by omega)]

/-- While Collect's handles are gone through: what is left, and its functions. -/
structure CollSt (w6 : World) (g : Nat) (l : List (Nat × Tab)) (fs : List Tab) (k : Nat) (lv vv : Value) (wr : World) : Prop where
  b : Below w6.heap.size w6 wr
  left : RowL w6.heap.size g wr 173 2 lv (2 + (collL (l.take k) fs).length) (gots (l.take 2 ++ collL (l.take k) fs))
  live : wr.ownsRow w6.heap.size 111 1 vv (collL (l.take k) fs).length (((collL (l.take k) fs).map Prod.snd).map tabv)

theorem CollSt.drew {w6 : World} {g : Nat} {l : List (Nat × Tab)} {fs : List Tab} {k : Nat} {lv vv : Value} {wr : World} (h : CollSt w6 g l fs k lv vv wr) (nd : Nat) : CollSt w6 g l fs k lv vv (wr.drewN nd) :=
  ⟨below_drewN h.b nd, h.left.below (below_drewN (Below.refl _ _) nd) h.b.size, owns_same h.live (fun _ _ => rfl)⟩

theorem CollSt.skip {w6 : World} {g : Nat} {l : List (Nat × Tab)} {fs : List Tab} {k : Nat} {lv vv : Value} {wr : World} (h : CollSt w6 g l fs k lv vv wr) (h2 : 2 ≤ k) (hk : k < l.length) (hn : (l.getD k (0, 0)).2 ∉ fs) : CollSt w6 g l fs (k + 1) lv vv wr := by
  have e := collL_succ l fs k h2 hk
  rw [if_neg hn, List.append_nil] at e
  exact ⟨h.b, by rw [e]; exact h.left, by rw [e]; exact h.live⟩

theorem CollSt.start {w6 : World} {g cap : Nat} {l : List (Nat × Tab)} {fs : List Tab} (hrow : RowC w6 173 2 (.slice (some ⟨g, 0, none⟩) l.length cap) l.length (gots l)) (hg : g < w6.heap.size) (h2 : 2 ≤ l.length) : CollSt w6 g l fs 2 (.slice (some ⟨g, 0, none⟩) 2 2) (.slice none 0 0) w6 := by
  obtain ⟨_, cur, hc, ht⟩ := hrow.cut h2
  have e : collL (l.take 2) fs = [] := by
    unfold collL
    rw [List.drop_eq_nil_of_le (by rw [List.length_take]; omega)]
    rfl
  refine ⟨Below.refl _ _, ?_, ?_⟩
  · rw [e]
    refine .inr ⟨?_, rfl, hg, ?_⟩
    · rw [List.append_nil, gots_len, List.length_take]; simp; omega
    · intro j u hj
      rw [List.append_nil, ← ht] at hj
      rw [cell_of_heap hc]
      rw [List.getElem?_take] at hj
      split at hj
      · simpa using hj
      · cases hj
  · rw [e]
    exact World.ownsRow_nil _ _ _ _

/-- One handle more is left. -/
theorem CollSt.take {w6 : World} {g : Nat} {l : List (Nat × Tab)} {fs : List Tab} {k : Nat} {lv vv : Value} {wr : World} (h : CollSt w6 g l fs k lv vv wr) (h2 : 2 ≤ k) (hk : k < l.length) (hn : (l.getD k (0, 0)).2 ∈ fs) {w8 w9 : World} {lv' vv' : Value} {h' : Nat} {f : Tab} (hp : l.getD k (0, 0) = (h', f)) (hb8 : Below w6.heap.size w6 w9)
    (hl : w9.ownsRow w6.heap.size 173 2 lv' (2 + (collL (l.take k) fs).length + 1) (gots (l.take 2 ++ collL (l.take k) fs) ++ [intv h', tabv f])) (hv : w9.ownsRow w6.heap.size 111 1 vv' ((collL (l.take k) fs).length + 1) (((collL (l.take k) fs).map Prod.snd).map tabv ++ [tabv f])) : CollSt w6 g l fs (k + 1) lv' vv' w9 := by
  have e := collL_succ l fs k h2 hk
  rw [if_pos hn, hp] at e
  have e2 : (collL (l.take (k + 1)) fs).length = (collL (l.take k) fs).length + 1 := by rw [e]; simp
  refine ⟨hb8, ?_, ?_⟩
  · rw [e2, e, ← List.append_assoc, gots_app]
    exact .inl (by simpa [gots, Nat.add_assoc] using hl)
  · rw [e2, e]
    simpa using hv

/-- What is left is stored. -/
theorem coll_done {I : (Nat → Prop) → World → Nat → CopS → Prop} {cF cT : Nat} (sp : CopseSpec I cF cT) {w6 wr : World} {tb x r N g cap : Nat} {C' : CopS} {S : RefS} {l : List (Nat × Tab)} {OT OX OR : Nat → Prop} {fs : List Tab} {lv vv : Value}
    (st : TwSt I w6 tb x r C' S l (.slice (some ⟨g, 0, none⟩) l.length cap) OT OX OR) (h2 : 2 ≤ l.length) (hs : CollSt w6 g l fs l.length lv vv wr) (ok : TwOk cF cT N C' { S with live := (collL l fs).map Prod.snd } (l.take 2 ++ collL l fs)) :
    (∃ v2, wr.cell? ⟨tb, 2, none⟩ = some v2) ∧ wr.frozen? ⟨tb, 2, none⟩ = false ∧ wr.cell? ⟨tb, 1, none⟩ = some (.pointer (some ⟨r, 0, none⟩)) ∧ tb ≠ r ∧ (∃ v3, wr.cell? ⟨r, 3, none⟩ = some v3) ∧ wr.frozen? ⟨r, 3, none⟩ = false ∧ TwPost I cF cT w6 tb (N + 1) (Un OT OX OR) ((wr.setCell ⟨tb, 2, none⟩ lv).setCell ⟨r, 3, none⟩ vv) := by
  obtain ⟨hb, hleft, hlive⟩ := hs
  rw [List.take_of_length_le (Nat.le_refl _)] at hleft hlive
  obtain ⟨_, cur, hcur, htk⟩ := st.t.row.cut h2
  have stw := st.below sp hb
  obtain ⟨nv, ov, lv0, hR⟩ := stw.s
  have hOg : OT g := st.t.ino g rfl
  have hgtb : g ≠ tb := fun e => st.t.ne (by rw [e]; rfl)
  have hrR : OR r := hR.self
  have htbT : OT tb := st.t.self
  have htr : tb ≠ r := fun e => st.d2 tb htbT (e ▸ hrR)
  have hgr : g ≠ r := fun e => st.d2 g hOg (e ▸ hrR)
  have ltT := st.t.lt
  have ltR := fun b hb' => st.s.lt b hb'
  have ltX := fun b hb' => sp.lt st.c b hb'
  obtain ⟨_, _, _, c3, _⟩ := ref_c hR
  refine ⟨⟨_, by rw [cell_of_heap stw.t.cells]; rfl⟩, frozen_of_heap stw.t.cells, by rw [cell_of_heap stw.t.cells]; rfl, htr, ⟨_, c3⟩, frozen_of_heap hR.cells, ?_⟩
  have hs1 : (wr.setCell ⟨tb, 2, none⟩ lv).heap.size = wr.heap.size := by simp [World.setCell]
  have hs2 : ((wr.setCell ⟨tb, 2, none⟩ lv).setCell ⟨r, 3, none⟩ vv).heap.size = wr.heap.size := by simp [World.setCell]
  have n1 : ∀ k, k ≠ tb → (wr.setCell ⟨tb, 2, none⟩ lv).heap[k]? = wr.heap[k]? := fun k hk => Below.heap_setCell _ _ _ _ hk
  have n2 : ∀ k, k ≠ tb → k ≠ r → ((wr.setCell ⟨tb, 2, none⟩ lv).setCell ⟨r, 3, none⟩ vv).heap[k]? = wr.heap[k]? := fun k hk hk2 => (Below.heap_setCell _ _ _ _ hk2).trans (n1 k hk)
  have hR1 : RefAt OR (wr.setCell ⟨tb, 2, none⟩ lv) r S nv ov lv0 := hR.keep (Nat.le_of_eq hs1.symm) (fun k hk => n1 k (fun e => st.d2 tb htbT (e ▸ hk)))
  have hlive' : wr.ownsRow w6.heap.size 111 1 vv ((collL l fs).map Prod.snd).length (((collL l fs).map Prod.snd).map tabv) := by rw [List.length_map]; exact hlive
  have hlv1 : (wr.setCell ⟨tb, 2, none⟩ lv).ownsRow w6.heap.size 111 1 vv ((collL l fs).map Prod.snd).length (((collL l fs).map Prod.snd).map tabv) := owns_same hlive' (fun k hk => n1 k (fun e => by have := (hlive.lt k hk).1; have := ltT tb htbT; omega))
  have hR2 := hR1.setLive hlv1 (fun b hb' => ltR b hb')
  have hl2 : 2 + (collL l fs).length = (l.take 2 ++ collL l fs).length := by rw [List.length_append, List.length_take]; omega
  have hlvb : ∀ k, lv.ownBlock = some k → k = g ∨ (w6.heap.size ≤ k ∧ k < wr.heap.size) := by
    intro k hk
    rcases hleft with hleft | ⟨_, rfl, _, _⟩
    · exact .inr (hleft.lt k hk)
    · simp [Value.ownBlock] at hk; exact .inl hk.symm
  have hvvb : ∀ k, vv.ownBlock = some k → w6.heap.size ≤ k ∧ k < wr.heap.size := fun k hk => hlive.lt k hk
  have hTw : TwinAt (fun b => OT b ∨ lv.ownBlock = some b) ((wr.setCell ⟨tb, 2, none⟩ lv).setCell ⟨r, 3, none⟩ vv) tb x r (l.take 2 ++ collL l fs) lv := by
    refine ⟨?_, .inl htbT, ?_, ?_, fun k hk => .inr hk, ?_⟩
    · intro b hb'
      rw [hs2]
      rcases hb' with e | e
      · exact stw.t.lt b e
      · rcases hlvb b e with e | e
        · rw [e]; exact stw.t.lt g hOg
        · exact e.2
    · rw [Below.heap_setCell _ _ _ _ htr, heap_setCell_at stw.t.cells]
      rfl
    · rw [← hl2]
      rcases hleft with hleft | ⟨hlen, rfl, _, hcs⟩
      · refine .inl (owns_same (ownsRow_base hleft (Nat.zero_le _)) (fun k hk => n2 k ?_ ?_))
        · intro e; have := (hleft.lt k hk).1; have := ltT tb htbT; omega
        · intro e; have := (hleft.lt k hk).1; have := ltR r hrR; omega
      · refine .inr ⟨hlen, g, cur, rfl, (n2 g hgtb hgr).trans ((hb.block g (ltT g hOg)).trans hcur), ?_⟩
        apply List.ext_getElem?
        intro j
        rw [List.getElem?_take]
        by_cases hj : j < (2 + (collL l fs).length) * 2
        · rw [if_pos hj]
          have hu : (gots (l.take 2 ++ collL l fs))[j]? = some ((gots (l.take 2 ++ collL l fs))[j]'(by omega)) := List.getElem?_eq_getElem (by omega)
          rw [hu]
          have h9 := hcs j _ hu
          rw [cell_of_heap ((hb.block g (ltT g hOg)).trans hcur)] at h9
          simpa using h9
        · rw [if_neg hj, List.getElem?_eq_none (by omega)]
    · intro e
      rcases hlvb tb e with e | e
      · exact hgtb e.symm
      · have := ltT tb htbT; omega
  have stN : TwSt I ((wr.setCell ⟨tb, 2, none⟩ lv).setCell ⟨r, 3, none⟩ vv) tb x r C' { S with live := (collL l fs).map Prod.snd } (l.take 2 ++ collL l fs) lv (fun b => OT b ∨ lv.ownBlock = some b) OX (fun b => OR b ∨ vv.ownBlock = some b) := by
    refine ⟨hTw, ?_, ⟨_, _, _, hR2⟩, ?_, ?_, ?_⟩
    · exact sp.keep stw.c (Nat.le_of_eq hs2.symm) (fun k hk => n2 k (fun e => st.d1 tb htbT (e ▸ hk)) (fun e => st.d3 k hk (e ▸ hrR)))
    · rintro b (e | e) hx
      · exact st.d1 b e hx
      · rcases hlvb b e with e2 | e2
        · exact st.d1 g hOg (e2 ▸ hx)
        · have := ltX b hx; omega
    · rintro b (e | e) (e2 | e2)
      · exact st.d2 b e e2
      · have := ltT b e; have := (hvvb b e2).1; omega
      · rcases hlvb b e with e3 | e3
        · exact st.d2 g hOg (e3 ▸ e2)
        · have := ltR b e2; omega
      · rcases hlvb b e with e3 | e3
        · have := ltT g hOg; have := (hvvb b e2).1; omega
        · rcases hleft with hleft | ⟨_, rfl, hgB, _⟩
          · rcases apart_of_types hleft hlive (by decide) with h1 | h1
            · rw [e] at h1; cases h1
            · exact h1 (e.trans e2.symm)
          · simp [Value.ownBlock] at e
            omega
    · rintro b hx (e | e)
      · exact st.d3 b hx e
      · have := ltX b hx; have := (hvvb b e).1; omega
  refine ⟨?_, Un (fun b => OT b ∨ lv.ownBlock = some b) OX (fun b => OR b ∨ vv.ownBlock = some b), ⟨x, r, C', _, _, lv, _, OX, _, stN, ok.mono (Nat.le_succ N), fun b => Iff.rfl⟩, ?_⟩
  · exact ((only_of_below hb _).setCell (p := ⟨tb, 2, none⟩) (.inl (.inl htbT)) _).setCell (p := ⟨r, 3, none⟩) (.inl (.inr (.inr hrR))) _
  · rintro b ((e | e) | e | (e | e))
    · exact .inl (.inl e)
    · rcases hlvb b e with e2 | e2
      · exact .inl (.inl (e2 ▸ hOg))
      · exact .inr e2.1
    · exact .inl (.inr (.inl e))
    · exact .inl (.inr (.inr e))
    · exact .inr (hvvb b e).1

end Go.Proofs.YtebfmcafmojlaaaGreatDoor

/-
  copselaw.World: collect, walked.
-/
namespace Go.Proofs.YtebfmcafmojlaaaGreatDoor
open Go.RowKit
set_option linter.unusedSimpArgs false
set_option linter.unusedVariables false

theorem TwinAt.at {O : Nat → Prop} {w : World} {tb x r g cap : Nat} {l : List (Nat × Tab)} (h : TwinAt O w tb x r l (.slice (some ⟨g, 0, none⟩) l.length cap)) (k : Nat) (hk : k < l.length) : w.cell? ⟨g, k * 2, none⟩ = some (intv (l.getD k (0, 0)).1) ∧ w.cell? ⟨g, k * 2 + 1, none⟩ = some (tabv (l.getD k (0, 0)).2) := by
  obtain ⟨g', cap', e, _, hc⟩ := h.read (by omega)
  cases e
  exact hc k hk

theorem tabs_atk {w : World} {base : Nat} {tao : Option Addr} {tcap n : Nat} {Ts : List Tab} {e : TypeId} (h : w.ownsRow base e 1 (.slice tao n tcap) n (Ts.map tabv)) (hT : Ts.length = n) (k : Nat) (hk : k < n) : ∃ fb, tao = some ⟨fb, 0, none⟩ ∧ fb < w.heap.size ∧ w.cell? ⟨fb, k, none⟩ = some (.int .u64 ((Ts.getD k 0).toNat : Int)) := by
  rcases h.2 with ⟨h', hn⟩ | ⟨g', cap, cur, h', _, hg, _⟩
  · omega
  · simp only [Value.slice.injEq] at h'
    obtain ⟨rfl, _, rfl⟩ := h'
    refine ⟨g', rfl, (h.lt g' rfl).2, ?_⟩
    subst hT
    rw [h.cellAt k (by omega)]
    simp [tabv, hk]

theorem not_mem_of_getD {Ts : List Tab} {f : Tab} {n : Nat} (hn : Ts.length = n) (h : ∀ j, j < n → Ts.getD j 0 ≠ f) : f ∉ Ts := by
  intro hm
  obtain ⟨j, hj, e⟩ := List.getElem_of_mem hm
  refine h j (by omega) ?_
  rw [List.getD_eq_getElem?_getD, List.getElem?_eq_getElem hj]
  exact e

theorem mem_of_getD {Ts : List Tab} {f : Tab} {n j : Nat} (hn : Ts.length = n) (hj : j < n) (h : Ts.getD j 0 = f) : f ∈ Ts := by
  rw [List.getD_eq_getElem?_getD, List.getElem?_eq_getElem (by omega)] at h
  rw [← h]
  exact List.getElem_mem _

theorem CollSt.live8 {w6 : World} {g : Nat} {l : List (Nat × Tab)} {fs : List Tab} {k : Nat} {lv vv : Value} {wr : World} (h : CollSt w6 g l fs k lv vv wr) {M : Nat} (hM : M = (collL (l.take k) fs).length) {o : Obj} {w8 : World} (hk8 : ∀ kk, w6.heap.size ≤ kk → kk < (wr.alloc o).heap.size → lv.ownBlock ≠ some kk → w8.heap[kk]? = (wr.alloc o).heap[kk]?) :
    w8.ownsRow w6.heap.size 111 1 vv M (((collL (l.take k) fs).map Prod.snd).map tabv) := by
  rw [hM]
  refine owns_same h.live (fun kk e => ?_)
  have hlt := h.live.lt kk e
  rw [hk8 kk hlt.1 (by simp; omega) ?_, Below.heap_alloc _ _ _ hlt.2]
  intro e2
  rcases h.left with hleft | ⟨_, rfl, hgB, _⟩
  · rcases apart_of_types hleft h.live (by decide) with h1 | h1
    · rw [e2] at h1; cases h1
    · exact h1 (e2.trans e.symm)
  · simp [Value.ownBlock] at e2
    omega

theorem coll_taken {w6 : World} {g : Nat} {l : List (Nat × Tab)} {fs : List Tab} {k M : Nat} {lv vv : Value} {wr : World} (h : CollSt w6 g l fs k lv vv wr) (hM : M = (collL (l.take k) fs).length) (h2 : 2 ≤ k) (hk : k < l.length) {f : Tab} (hn : f ∈ fs) {h' : Nat} (hp : l.getD k (0, 0) = (h', f)) {w8 w9 : World} (hb8 : Below w6.heap.size w6 w8) {lv' vv' : Value}
    (hl : w8.ownsRow w6.heap.size 173 2 lv' (2 + M + 1) (gots (l.take 2 ++ collL (l.take k) fs) ++ [intv h', tabv f])) (hv : w8.ownsRow w6.heap.size 111 1 vv M (((collL (l.take k) fs).map Prod.snd).map tabv)) {o : Obj} (hg : (w8.alloc o).grownBy w9 vv.ownBlock) (ho : w9.ownsRow w6.heap.size 111 1 vv' (M + 1) (((collL (l.take k) fs).map Prod.snd).map tabv ++ [tabv f])) : CollSt w6 g l fs (k + 1) lv' vv' w9 := by
  subst hM
  refine h.take (w8 := w8) h2 hk (by rw [hp]; exact hn) hp ?_ ((hl.alloc _).kept hg (apart_of_types hl hv (by decide))) ho
  exact (hb8.alloc hb8.size _).grown hg (Nat.le_trans hb8.size (by simp)) (fun k hk => (hv.lt k hk).1)

set_option maxHeartbeats 8000000 in
set_option maxRecDepth 20000 in
theorem law_collect {I : (Nat → Prop) → World → Nat → CopS → Prop} {cF cT : Nat} (sp : CopseSpec2 I cF cT) {w : World} {tb x r N : Nat} {C : CopS} {S : RefS} {l : List (Nat × Tab)} {av : Value} {OT OX OR : Nat → Prop} (st : TwSt I w tb x r C S l av OT OX OR) (ok : TwOk cF cT N C S l) (hN : N ≤ 3000000)
    (o : OpS) (fv : Value) (ho : OpOk w o fv) {wb : Nat} {L : LawS} {OL K : Nat → Prop} (hl : LawIs OL K w wb L) (hd2 : ∀ b, Un OT OX OR b → ¬ OL b ∧ ¬ K b) (hLn : L.n ≤ 100000000) (hLt : L.ints.length ≤ 100000000) :
    Calls Tryz.prog 67 #[.pointer (some ⟨wb, 0, none⟩), .pointer (some ⟨tb, 0, none⟩), opv o fv] w fun e w' => e = .returned (.bool true) ∧ AskPost I cF cT w tb (N + 1) (Un OT OX OR) wb L OL K w' := by
  have hF := ho.f
  have hF1 := ho.fl
  have hz := ho.z
  have hs := ho.s
  clear ho
  obtain ⟨fao, fcap, rfl⟩ := reads_form hF
  have hFl0 : o.f.length ≤ 2000000 := Nat.le_trans hF1 (by decide)
  have hsev := fun wq hb => several_box sp.b st ok hN o fao fcap hF hFl0 hz wq hb
  obtain ⟨kd, on, oa, ov, F, os⟩ := o
  dsimp only at hsev hs hF hz hF1 hFl0
  have hFl := hFl0
  clear hFl0
  obtain ⟨g, gcap, rfl, hOg, _⟩ := st.t.read (by have := ok.l2; omega)
  have htl := st.t.lt tb st.t.self
  have hX : w.cell? ⟨tb, 0, none⟩ = some (.pointer (some ⟨x, 0, none⟩)) := by rw [cell_of_heap st.t.cells]; rfl
  have hRp : w.cell? ⟨tb, 1, none⟩ = some (.pointer (some ⟨r, 0, none⟩)) := by rw [cell_of_heap st.t.cells]; rfl
  have hbw := (Below.refl w.heap.size w).alloc (Nat.le_refl _) (.cells #[.int .i64 kd, .int .i64 on, .int .i64 oa, .bool ov, .slice fao F.length fcap, .string os] 66)
  obtain ⟨ez, C', hcoll, hkz⟩ := coll_any sp (OX := OX) (x := x) ok F hFl
  have hTl : (sevTs l F F.length).length = F.length := by rw [sevTs_len]
  generalize hHs : sevHs l F F.length = Hs at hsev hcoll
  generalize hTs : sevTs l F F.length = Ts at hsev hkz hTl
  generalize hOk : sevOk l F F.length = okb at hsev hkz
  have hHl : Hs.length = F.length := by rw [← hHs]; exact sevHs_len _ _ _
  obtain ⟨⟨lav, ltv, lmv, liv, lnv, hLa⟩, hKa, hdK⟩ := id hl
  obtain ⟨i0, hi, hz0, hz1, hz2⟩ := info_parts Tryz.infoInt
  clear hF hz hHs hTs hOk
  unfold opv
  dsimp only
  go_enter Tryz.func67, Tryz.ntmps67
  go_wp2_with (first
    | (go_at_call 119; refine (hsev _ hbw).mono ?_; rintro e w1 ⟨hv, tv, rfl, hvo, hto, hb1⟩; obtain ⟨hao, hcap, rfl⟩ := owns_form hvo; obtain ⟨tao, tcap, rfl⟩ := owns_form hto; replace hbw1 := hbw.trans (hb1.mono hbw.size))
    | (at_make; refine wpList_make_full _ rfl _ _ 25 rfl w1.heap.size 3 i0 (.int .i64 0) 1 Tryz.underlying25 hi hz0 hz1 _ _ _ _ (F.length + 2) rfl rfl ?_ ?_ ?_ ?_ ?_ ?_; exact natc2 F.length; exact natc2 F.length; exact make_b2 hz2 hFl; exact make_b3 hFl; exact Nat.le_refl _; intro w2 hmk hg2)
    | (refine wpList_copy_splice rfl (.tmp 31) (.tmp 32) 25 25 rfl 3 Tryz.underlying25 Tryz.infoInt1 _ _ _ _ _ _ rfl rfl w1.heap.size 0 (madeCells (Value.int .i64 0).cells ((F.length + 2) * 1)).toList 3 (own_heap hmk) (Hs.map zv) ?_ ?_ ?_ (zs_oneCell _) w1.heap.size w1 (grown_none hg2) (Nat.le_refl _) ?_; exact copy_len hHl; exact copy_pos hvo hg2; exact copy_fit hHl; intro w3 hh3 hb3; obtain ⟨y3, z3, hG, c3, c4⟩ := own_made hh3 (made_len F.length) (map_len hHl); have fz3 := frozen_of_heap (o := F.length) hG; have fz4 := frozen_of_heap (o := F.length + 1) hG; clear hh3))
  obtain ⟨W4, hW4⟩ : ∃ W4, W4 = (w3.setCell ⟨w1.heap.size, F.length, none⟩ (.int .i64 77)).setCell ⟨w1.heap.size, F.length + 1, none⟩ (.int .i64 78) := ⟨_, rfl⟩
  rw [← hW4]
  have hG4 : W4.heap[w1.heap.size]? = some (.cells (Hs.map zv ++ [zv 77, zv 78]).toArray 3 (0, 0)) := by rw [hW4]; exact own_stored hG (map_len hHl) _ _
  have hb4 : Below w1.heap.size w1 W4 := by rw [hW4]; exact (hb3.setCell (Nat.le_refl _) _).setCell (Nat.le_refl _) _
  clear hW4 hG c3 c4 fz3 fz4 hmk hg2 hb3
  have hbw4 : Below w.heap.size w W4 := hbw1.trans (hb4.mono hbw1.size)
  have hX4 := (hbw4.cell (p := ⟨tb, 0, none⟩) htl).trans hX
  have hRd : Reads W4.drew.heap.size W4.drew (.slice (some ⟨w1.heap.size, 0, none⟩) F.length (F.length + 2)) (Hs.map zv) := own_reads hHl hG4
  have hng : ¬ OX w1.heap.size := fun e => by have := sp.b.lt st.c _ e; have := hbw1.size; omega
  have hfo : ∀ ad n c, (Value.slice (some ⟨w1.heap.size, 0, none⟩) F.length (F.length + 2)) = .slice (some ad) n c → ¬ OX ad.block := by
    intro ad n c e
    cases e
    exact hng
  go_region_held (fun w' => w'.cell? ⟨tb, 0, none⟩ = some (.pointer (some ⟨x, 0, none⟩))) (go_keep) (first | (go_at_call 71; refine (hcoll _ _ (st.below sp.b hbw4.drew).c hRd hfo).mono ?_; rintro e w5 ⟨rfl, hsc⟩; obtain ⟨OX2, st5, ho5, hg5⟩ := (st.below sp.b hbw4.drew).stepC sp.b hsc; have hx5 : w5.cell? ⟨tb, 0, none⟩ = some (.pointer (some ⟨x, 0, none⟩)) := (by rw [cell_of_heap st5.t.cells]; rfl)))
  have hG5 : w5.heap[w1.heap.size]? = some (.cells (Hs.map zv ++ [zv 77, zv 78]).toArray 3 (0, 0)) := (ho5.block w1.heap.size (own_lt hG4) hng).trans hG4
  have hvo5 := owns_same (owns_below hvo hb4 (Nat.le_refl _)) (w' := w5) (fun k e => ho5.block k (row_lt hvo hb4 e) (row_not sp.b st.c hbw hvo e))
  have c5 : w5.cell? ⟨w1.heap.size, F.length, none⟩ = some (.int .i64 77) := own_at77 hHl hG5
  have c6 : w5.cell? ⟨w1.heap.size, F.length + 1, none⟩ = some (.int .i64 78) := own_at78 hHl hG5
  clear hcoll hRd hfo hX4 hsev
  go_wp2
  go_loopw [13, 14] (fun wh i wr => ∃ k : Nat, k ≤ F.length ∧ i = .int .i64 k ∧ wh = .bool true ∧ ∃ nd, wr = w5.drewN nd) (fun _ i _ => F.length - (intOf i).toNat)
  case atStart => exact ⟨0, Nat.zero_le _, rfl, rfl, 0, rfl⟩
  case round =>
    obtain ⟨k, hkF, rfl, rfl, nd, rfl⟩ := hrel
    by_cases hkl : k < F.length
    · have hown := own_atk hHl hG5 k hkl
      obtain ⟨lb, hao2, hlk⟩ := row_atk hvo5 hHl k hkl
      subst hao2
      obtain ⟨zk, hzk⟩ : ∃ zk, zk = Hs.getD k 0 := ⟨_, rfl⟩
      rw [← hzk] at hown hlk
      clear hzk
      go_wp2
      go_quiet (fail)
      go_wp2
      go_roundw
      case rel => exact ⟨k + 1, by omega, by go_num, rfl, _, rfl⟩
      case measure => simp [intOf]; omega
    · have hbD := below_drewN (Below.refl w5.heap.size w5) nd
      have hkeep := nodes_keep (nd := nd) hLa hKa hdK hd2 hLn hLt sp.b st hbw4.drew ho5 (own_row hHl hG5 (make_b3 hFl)) (own_ge hbw1) (len2 hF1)
      have hmid : ∀ w6, KeepLPost OL K (w5.drewN nd) wb L (.slice (some ⟨w1.heap.size, 0, none⟩) (F.length + 2) (F.length + 2)) w6 0 4 → (∃ OL' K' L', KeptMid I w w6 tb x r C' S l (.slice (some ⟨g, 0, none⟩) l.length gcap) OT OX OR OX2 wb L OL K OL' K' L') ∧ w6.ownsRow 0 111 1 (.slice tao F.length tcap) F.length (Ts.map tabv) := by
        intro w6 hkp
        exact ⟨kept_mid sp.b st hl hd2 hbw4.drew ho5 st5.c hg5 (own_new hbw1 hG5 hg5 hng hG4) hbD (by decide) (by decide) hkp, ownsRow_base (tabs_kept hto hb4 ho5 (row_not sp.b st.c hbw hto) (row_law hLa hbw hto) (nd := nd) hkp) (Nat.zero_le _)⟩
      have HM : Hid _ := hmid
      have hok := ok
      have hl2 := ok.l2
      have hlN := ok.lN
      have inj : ∀ {a b f}, C.T a = some f → C.T b = some f → a = b := fun {a b f} ha hb => sp.b.inj st.c (h := a) (h' := b) (f := f) ha hb
      clear c5 c6 hmid hto hvo hvo5 hG5 hG4 hb4 st5 ho5 hg5 hng hsc hx5 hbD hb1 hbw1 hbw4 hLa hKa hdK st ok hl hd2 hX hRp hbw
      rcases hkz with ⟨rfl, rfl, hs', rfl, hTe⟩ | ⟨rfl, rfl, rfl⟩
      · have ok' := hok.coll inj hTe (fun r f => collT_iff)
        clear hok inj hTe
        go_wp2_with (first
          | (go_at_call 120; refine hkeep.mono ?_; clear hkeep; rintro e w6 ⟨rfl, hkp⟩; obtain ⟨⟨OL', K', L', km⟩, hto6⟩ := HM.out w6 hkp; clear HM hkp; have hr6 : w6.cell? ⟨tb, 2, none⟩ = some (.slice (some ⟨g, 0, none⟩) l.length gcap) := (by rw [cell_of_heap km.st.t.cells]; rfl); have hgc := (km.st.t.row.cut hl2).1; have h2c : 2 ≤ gcap := Nat.le_trans hl2 hgc))
        have hst0 := CollSt.start (fs := Ts) km.st.t.row (km.st.t.lt g hOg) hl2
        have htl6 := km.st.t.lt tb km.st.t.self
        have hgl6 := km.st.t.lt g hOg
        obtain ⟨j0, hj, gz0, gz1, gz2⟩ := info_parts Tryz.infoGot
        obtain ⟨k0, hkk, kz0, kz1, kz2⟩ := info_parts Tryz.infoFunc
        go_loopw [15, 16, 17] (fun lv vv i wr => ∃ k : Nat, 2 ≤ k ∧ k ≤ l.length ∧ i = .int .i64 k ∧ CollSt w6 g l Ts k lv vv wr) (fun _ _ i _ => l.length - (intOf i).toNat)
        case atStart => exact ⟨2, by omega, hl2, rfl, hst0⟩
        case round =>
          obtain ⟨k, hk2, hkl2, rfl, hcs⟩ := hrel
          obtain ⟨lao, lcap, elv⟩ := hcs.left.form
          obtain ⟨vao, vcap, evv⟩ := owns_form hcs.live
          subst elv
          subst evv
          clear hst0
          have hml := collL_len l Ts k
          have hleft := fun nd => (hcs.drew nd).left
          obtain ⟨M, hM⟩ : ∃ M, M = (collL (l.take k) Ts).length := ⟨_, rfl⟩
          rw [← hM] at hcs hml hleft ⊢
          have HMM : Hid _ := hM
          have HLF : Hid _ := hleft
          clear hM hleft
          have hb := hcs.b
          have d2 := (hb.cell (p := ⟨tb, 2, none⟩) htl6).trans hr6
          by_cases hkl : k < l.length
          · obtain ⟨q1, q2⟩ := km.st.t.at k hkl
            obtain ⟨h', f, hp⟩ : ∃ h' f, l.getD k (0, 0) = (h', f) := ⟨_, _, rfl⟩
            rw [hp] at q1 q2
            simp only [intv, tabv] at q1 q2
            have r1 := (hb.cell (p := ⟨g, k * 2, none⟩) hgl6).trans q1
            have r2 := (hb.cell (p := ⟨g, k * 2 + 1, none⟩) hgl6).trans q2
            have hskip : (∀ j, j < F.length → Ts.getD j 0 ≠ f) → ∀ nd, CollSt w6 g l Ts (k + 1) (.slice lao (2 + M) lcap) (.slice vao M vcap) (wr.drewN nd) := fun h nd => (hcs.drew nd).skip hk2 hkl (by rw [hp]; exact not_mem_of_getD hTl h)
            have HSK : Hid _ := hskip
            have HCS : Hid _ := hcs
            have HP : Hid _ := hp
            obtain ⟨w7, hw7⟩ : ∃ w7, w7 = wr := ⟨_, rfl⟩
            subst hw7
            clear hskip hcs hp q1
            go_wp2_with fail
            go_loopw [15, 16, 18] (fun lv vv kv wr => lv = .slice lao (2 + M) lcap ∧ vv = .slice vao M vcap ∧ ∃ m : Nat, m ≤ F.length ∧ kv = .int .i64 m ∧ (∀ j, j < m → Ts.getD j 0 ≠ f) ∧ ∃ nd, wr = w7.drewN nd) (fun _ _ kv _ => F.length - (intOf kv).toNat)
            case atStart => exact ⟨rfl, rfl, 0, Nat.zero_le _, rfl, fun j hj => by omega, 0, rfl⟩
            case round =>
              obtain ⟨rfl, rfl, m, hm, rfl, hne, nd2, rfl⟩ := hrel
              by_cases hmn : m < F.length
              · obtain ⟨fb, efb, hfl, hfc⟩ := tabs_atk hto6 hTl m hmn
                subst efb
                have hfc7 := (hb.cell (p := ⟨fb, m, none⟩) hfl).trans hfc
                obtain ⟨fx, hfx⟩ : ∃ fx, fx = Ts.getD m 0 := ⟨_, rfl⟩
                rw [← hfx] at hfc7
                have e2 := eq_tab fx f
                by_cases hff : fx = f
                · have hbb : (fx == f) = true := by simp [hff]
                  rw [hbb] at e2
                  have hmem : f ∈ Ts := mem_of_getD hTl hmn (by rw [← hfx]; exact hff)
                  have HME : Hid (f ∈ Ts) := hmem
                  clear hmem hbb hff hfx hne hfc HSK
                  go_wp2
                  go_quiet (fail)
                  go_wp2_with (first
                    | (at_builtin; refine wpList_append_left rfl (.tmp 123) (.tmp 131) 106 rfl w6.heap.size g 173 j0 (.agg #[.int .i64 0, .int .u64 0]) 2 16 Tryz.underlying106 hj gz0 gz1 gz2 rfl (by decide) _ _ _ rfl ((HLF.out _).alloc hb.size _) ?_ _ 1 1 (by decide) [intv h', tabv f] rfl rfl ?_ ?_ ?_ ?_ ?_; exact Nat.le_trans hb.size (by simp); exact cell_two_new _ _ _ _; exact two_cells _ _; exact le_maxLen (by omega); omega; intro v8 w8 ho8 hb8 hk8 hp8; have hbw8 := ((below_drewN hb _).alloc hb.size _).trans hb8; have hv8 := (HCS.out.drew _).live8 HMM.out hk8; have d8 := (hbw8.cell (p := ⟨tb, 2, none⟩) htl6).trans hr6; have s2 := (hbw8.cell (p := ⟨g, k * 2 + 1, none⟩) hgl6).trans q2; obtain ⟨lao8, lcap8, rfl⟩ := owns_form ho8; clear hk8 hp8 hb8)
                    | (at_builtin; refine wpList_append_placed rfl (.tmp 133) (.tmp 142) 175 rfl w6.heap.size 111 k0 (.int .u64 0) 1 8 Tryz.underlying175 hkk kz0 kz1 kz2 rfl (by decide) _ _ _ rfl (hv8.alloc _) _ 1 1 [tabv f] rfl rfl ?_ ?_ ?_ ?_ ?_ ?_; exact cell_one_new _ _ _; exact one_cell_tab _; exact le_maxLen (by omega); omega; exact Nat.le_trans hbw8.size (by simp); intro v9 w9 ho9 hg9 hp9; have hcs9 := coll_taken HCS.out HMM.out hk2 hkl HME.out HP.out hbw8 ho8 hv8 hg9 ho9; have HC9 : Hid _ := hcs9; clear hcs9 ho9 hg9 hp9 ho8 hv8 hbw8 d8 s2))
                  go_roundw
                  case rel => exact ⟨k + 1, by omega, by omega, by go_num, HC9.out⟩
                  case measure => simp [intOf]; omega
                · have hbb : (fx == f) = false := by simp [hff]
                  rw [hbb] at e2
                  have hne2 : ∀ j, j < m + 1 → Ts.getD j 0 ≠ f := by
                    intro j hj
                    by_cases e : j = m
                    · rw [e, ← hfx]; exact hff
                    · exact hne j (by omega)
                  have HNE : Hid _ := hne2
                  clear hbb hff hfx hne hfc HSK hne2 HCS
                  go_wp2
                  go_quiet (fail)
                  go_wp2
                  go_roundw
                  case rel => exact ⟨rfl, rfl, m + 1, by omega, by go_num, HNE.out, _, rfl⟩
                  case measure => simp [intOf]; omega
              · have hcs2 := HSK.out (fun j hj => hne j (by omega)) nd2
                have HC2 : Hid _ := hcs2
                clear HSK HCS hne hcs2
                go_wp2_with fail
                go_roundw
                case rel => exact ⟨k + 1, by omega, by omega, by go_num, HC2.out⟩
                case measure => simp [intOf]; omega
          · have hkeq : k = l.length := by omega
            subst hkeq
            obtain ⟨⟨v2, g2⟩, f2, g1, htr, ⟨v3, g3⟩, f3, hpost⟩ := coll_done sp.b km.st hl2 hcs ok'
            have HPo : Hid (TwPost I cF cT w6 tb (N + 1) (Un OT OX2 OR) ((wr.setCell ⟨tb, 2, none⟩ (.slice lao (2 + M) lcap)).setCell ⟨r, 3, none⟩ (.slice vao M vcap))) := hpost
            clear hpost hcs HLF HMM hml
            go_wp2_with fail
            go_ret
            exact ⟨rfl, km.post HPo.out⟩
      · clear inj
        go_wp2_with (first
          | (go_at_call 120; refine hkeep.mono ?_; clear hkeep; rintro e w6 ⟨rfl, hkp⟩; obtain ⟨⟨OL', K', L', km⟩, hto6⟩ := HM.out w6 hkp; clear HM hkp)
          | (go_at_call 103; refine (lawNum _ _).mono ?_; rintro e w9 ⟨rfl, hq⟩; replace hq := hq.symm; subst hq))
        go_ret
        exact ⟨rfl, km.post (TwIs.post ⟨x, r, C', S, l, _, OT, OX2, OR, km.st, hok.mono (Nat.le_succ N), fun b => Iff.rfl⟩)⟩

end Go.Proofs.YtebfmcafmojlaaaGreatDoor

/-
  copselaw.World with all its twins: each in blocks of its own.
-/
namespace Go.Proofs.YtebfmcafmojlaaaGreatDoor
open Go.RowKit
set_option linter.unusedSimpArgs false
set_option linter.unusedVariables false

structure AllIs (I : (Nat → Prop) → World → Nat → CopS → Prop) (cF cT : Nat) (G : Nat → Prop) (w : World) (wb : Nat) (L : LawS) (OL K : Nat → Prop) (Os : Nat → Nat → Prop) (Ns : Nat → Nat) (M : Nat) : Prop where
  law : LawIs OL K w wb L
  tw : ∀ j, j < L.tbs.length → TwIs I cF cT (Os j) w (L.tbs.getD j 0) (Ns j)
  d : ∀ j, j < L.tbs.length → ∀ b, Os j b → ¬ OL b ∧ ¬ K b
  dd : ∀ i j, i < L.tbs.length → j < L.tbs.length → i ≠ j → ∀ b, Os i b → ¬ Os j b
  bL : ∀ b, OL b ∨ K b → G b
  bT : ∀ j, j < L.tbs.length → ∀ b, Os j b → G b
  nw : ∀ b, w.heap.size ≤ b → G b
  mt : L.texts.length ≤ 4 * M
  mi : L.ints.length ≤ 4 * M
  mn : L.n ≤ M

def setN (Ns : Nat → Nat) (k n : Nat) : Nat → Nat := fun j => if j = k then n else Ns j
def setO (Os : Nat → Nat → Prop) (k : Nat) (O : Nat → Prop) : Nat → Nat → Prop := fun j => if j = k then O else Os j

theorem setN_at (Ns : Nat → Nat) (k n : Nat) : setN Ns k n k = n := by simp [setN]
theorem setN_ne (Ns : Nat → Nat) (k n j : Nat) (h : j ≠ k) : setN Ns k n j = Ns j := by simp [setN, h]
theorem setO_at (Os : Nat → Nat → Prop) (k : Nat) (O : Nat → Prop) : setO Os k O k = O := by simp [setO]
theorem setO_ne (Os : Nat → Nat → Prop) (k : Nat) (O : Nat → Prop) (j : Nat) (h : j ≠ k) : setO Os k O j = Os j := by simp [setO, h]

theorem TwIs.lt {I : (Nat → Prop) → World → Nat → CopS → Prop} {cF cT : Nat} (sp : CopseSpec I cF cT) {O : Nat → Prop} {w : World} {tb N : Nat} (h : TwIs I cF cT O w tb N) : ∀ b, O b → b < w.heap.size := by
  obtain ⟨x, r, C, S, l, av, OT, OX, OR, hs, ok, ho⟩ := h
  intro b hb
  rcases (ho b).1 hb with e | e | e
  · exact hs.t.lt b e
  · exact sp.lt hs.c b e
  · exact hs.s.lt b e

theorem TwIs.keep {I : (Nat → Prop) → World → Nat → CopS → Prop} {cF cT : Nat} (sp : CopseSpec I cF cT) {O : Nat → Prop} {w w' : World} {tb N : Nat} (h : TwIs I cF cT O w tb N) (hs : w.heap.size ≤ w'.heap.size) (hb : ∀ k, O k → w'.heap[k]? = w.heap[k]?) : TwIs I cF cT O w' tb N := by
  obtain ⟨x, r, C, S, l, av, OT, OX, OR, st, ok, ho⟩ := h
  exact ⟨x, r, C, S, l, av, OT, OX, OR, ⟨st.t.keep hs (fun k hk => hb k ((ho k).2 (.inl hk))), sp.keep st.c hs (fun k hk => hb k ((ho k).2 (.inr (.inl hk)))), st.s.keep hs (fun k hk => hb k ((ho k).2 (.inr (.inr hk)))), st.d1, st.d2, st.d3⟩, ok, ho⟩

theorem AllIs.mono {I : (Nat → Prop) → World → Nat → CopS → Prop} {cF cT : Nat} {G : Nat → Prop} {w : World} {wb : Nat} {L : LawS} {OL K : Nat → Prop} {Os : Nat → Nat → Prop} {Ns Ns' : Nat → Nat} {M M' : Nat} (h : AllIs I cF cT G w wb L OL K Os Ns M) (hN : ∀ j, Ns j ≤ Ns' j) (hM : M ≤ M') : AllIs I cF cT G w wb L OL K Os Ns' M' :=
  ⟨h.law, fun j hj => (h.tw j hj).mono (hN j), h.d, h.dd, h.bL, h.bT, h.nw, Nat.le_trans h.mt (by omega), Nat.le_trans h.mi (by omega), Nat.le_trans h.mn hM⟩

theorem AllIs.below {I : (Nat → Prop) → World → Nat → CopS → Prop} {cF cT : Nat} (sp : CopseSpec I cF cT) {G : Nat → Prop} {w w' : World} {wb : Nat} {L : LawS} {OL K : Nat → Prop} {Os : Nat → Nat → Prop} {Ns : Nat → Nat} {M : Nat} (h : AllIs I cF cT G w wb L OL K Os Ns M) (hb : Below w.heap.size w w') : AllIs I cF cT G w' wb L OL K Os Ns M :=
  ⟨h.law.keep hb.size (fun k hk => hb.block k (h.law.lt k hk)), fun j hj => (h.tw j hj).below sp hb, h.d, h.dd, h.bL, h.bT, fun b hb2 => h.nw b (Nat.le_trans hb.size hb2), h.mt, h.mi, h.mn⟩

theorem only_below {B : Nat} {O : Nat → Prop} {w w' : World} (h : Only O w w') (hO : ∀ b, O b → B ≤ b) (hB : B ≤ w.heap.size) : Below B w w' :=
  ⟨h.os, h.tape, h.output, h.size, fun k hk => h.block k (by omega) (fun e => by have := hO k e; omega)⟩

theorem AllIs.ask {I : (Nat → Prop) → World → Nat → CopS → Prop} {cF cT : Nat} (sp : CopseSpec I cF cT) {G : Nat → Prop} {w w' : World} {wb : Nat} {L : LawS} {OL K : Nat → Prop} {Os : Nat → Nat → Prop} {Ns : Nat → Nat} {M : Nat} (h : AllIs I cF cT G w wb L OL K Os Ns M) {k : Nat} (hk : k < L.tbs.length) {n : Nat} (hp : AskPost I cF cT w (L.tbs.getD k 0) n (Os k) wb L OL K w') :
    ∃ L' OL' K' Os', AllIs I cF cT G w' wb L' OL' K' Os' (setN Ns k n) (M + 1) ∧ L'.tbs = L.tbs ∧ Only G w w' := by
  obtain ⟨OL', K', L', O', hl, ht, ho, e1, e2, e3, e4, gL, gO, gK, hd⟩ := hp
  have hmt := h.mt
  have hmi := h.mi
  have hmn := h.mn
  have hnw := h.nw
  have hlt : ∀ j, j < L.tbs.length → ∀ b, Os j b → b < w.heap.size := fun j hj => (h.tw j hj).lt sp
  refine ⟨L', OL', K', setO Os k O', ⟨hl, ?_, ?_, ?_, ?_, ?_, fun b hb2 => hnw b (Nat.le_trans ho.size hb2), by omega, by omega, by omega⟩, e1, ?_⟩
  · intro j hj
    rw [e1] at hj ⊢
    by_cases e : j = k
    · subst e
      rw [setN_at, setO_at]
      exact ht
    · rw [setN_ne _ _ _ _ e, setO_ne _ _ _ _ e]
      refine (h.tw j hj).keep sp ho.size (fun b hb => ho.block b (hlt j hj b hb) ?_)
      rintro (e2 | e2)
      · exact (h.d j hj b hb).1 e2
      · exact h.dd j k hj hk e b hb e2
  · intro j hj b hb
    rw [e1] at hj
    by_cases e : j = k
    · subst e
      rw [setO_at] at hb
      exact hd b hb
    · rw [setO_ne _ _ _ _ e] at hb
      have h1 := h.d j hj b hb
      have h2 := hlt j hj b hb
      refine ⟨fun e2 => ?_, fun e2 => ?_⟩
      · rcases gL b e2 with e3 | e3
        · exact h1.1 e3
        · omega
      · rcases gK b e2 with e3 | e3
        · exact h1.2 e3
        · omega
  · intro i j hi hj hij b hb hb2
    rw [e1] at hi hj
    by_cases e : i = k
    · subst e
      have e' : j ≠ i := fun e => hij e.symm
      rw [setO_at] at hb
      rw [setO_ne _ _ _ _ e'] at hb2
      rcases gO b hb with e3 | e3
      · exact h.dd i j hi hj hij b e3 hb2
      · have := hlt j hj b hb2; omega
    · rw [setO_ne _ _ _ _ e] at hb
      by_cases e' : j = k
      · subst e'
        rw [setO_at] at hb2
        rcases gO b hb2 with e3 | e3
        · exact h.dd i j hi hj hij b hb e3
        · have := hlt i hi b hb; omega
      · rw [setO_ne _ _ _ _ e'] at hb2
        exact h.dd i j hi hj hij b hb hb2
  · rintro b (e | e)
    · rcases gL b e with e3 | e3
      · exact h.bL b (.inl e3)
      · exact hnw b e3
    · rcases gK b e with e3 | e3
      · exact h.bL b (.inr e3)
      · exact hnw b e3
  · intro j hj b hb
    rw [e1] at hj
    by_cases e : j = k
    · subst e
      rw [setO_at] at hb
      rcases gO b hb with e3 | e3
      · exact h.bT j hj b e3
      · exact hnw b e3
    · rw [setO_ne _ _ _ _ e] at hb
      exact h.bT j hj b hb
  · refine ho.mono ?_
    rintro b (e | e)
    · exact h.bL b (.inl e)
    · exact h.bT k hk b e

theorem AllIs.step {I : (Nat → Prop) → World → Nat → CopS → Prop} {cF cT : Nat} (sp : CopseSpec I cF cT) {G : Nat → Prop} {w w' : World} {wb : Nat} {L : LawS} {OL K : Nat → Prop} {Os : Nat → Nat → Prop} {Ns : Nat → Nat} {M : Nat} (h : AllIs I cF cT G w wb L OL K Os Ns M) {k : Nat} (hk : k < L.tbs.length) {n : Nat} (hp : TwPost I cF cT w (L.tbs.getD k 0) n (Os k) w') :
    ∃ Os', AllIs I cF cT G w' wb L OL K Os' (setN Ns k n) M ∧ Only G w w' := by
  obtain ⟨ho, O', ht, gO⟩ := hp
  have hnw := h.nw
  have hlt : ∀ j, j < L.tbs.length → ∀ b, Os j b → b < w.heap.size := fun j hj => (h.tw j hj).lt sp
  refine ⟨setO Os k O', ⟨h.law.keep ho.size (fun b hb => ho.block b (h.law.lt b hb) (fun e => hb.elim (h.d k hk b e).1 (h.d k hk b e).2)), ?_, ?_, ?_, h.bL, ?_, fun b hb2 => hnw b (Nat.le_trans ho.size hb2), h.mt, h.mi, h.mn⟩, ho.mono (h.bT k hk)⟩
  · intro j hj
    by_cases e : j = k
    · subst e
      rw [setN_at, setO_at]
      exact ht
    · rw [setN_ne _ _ _ _ e, setO_ne _ _ _ _ e]
      exact (h.tw j hj).keep sp ho.size (fun b hb => ho.block b (hlt j hj b hb) (h.dd j k hj hk e b hb))
  · intro j hj b hb
    by_cases e : j = k
    · subst e
      rw [setO_at] at hb
      rcases gO b hb with e3 | e3
      · exact h.d j hj b e3
      · exact ⟨fun e2 => by have := h.law.lt b (.inl e2); omega, fun e2 => by have := h.law.lt b (.inr e2); omega⟩
    · rw [setO_ne _ _ _ _ e] at hb
      exact h.d j hj b hb
  · intro i j hi hj hij b hb hb2
    by_cases e : i = k
    · subst e
      have e' : j ≠ i := fun e => hij e.symm
      rw [setO_at] at hb
      rw [setO_ne _ _ _ _ e'] at hb2
      rcases gO b hb with e3 | e3
      · exact h.dd i j hi hj hij b e3 hb2
      · have := hlt j hj b hb2; omega
    · rw [setO_ne _ _ _ _ e] at hb
      by_cases e' : j = k
      · subst e'
        rw [setO_at] at hb2
        rcases gO b hb2 with e3 | e3
        · exact h.dd i j hi hj hij b hb e3
        · have := hlt i hi b hb; omega
      · rw [setO_ne _ _ _ _ e'] at hb2
        exact h.dd i j hi hj hij b hb hb2
  · intro j hj b hb
    by_cases e : j = k
    · subst e
      rw [setO_at] at hb
      rcases gO b hb with e3 | e3
      · exact h.bT j hj b e3
      · exact hnw b e3
    · rw [setO_ne _ _ _ _ e] at hb
      exact h.bT j hj b hb

theorem AllIs.begun {I : (Nat → Prop) → World → Nat → CopS → Prop} {cF cT : Nat} (sp : CopseSpec I cF cT) {G : Nat → Prop} {w w' : World} {wb : Nat} {L : LawS} {OL K : Nat → Prop} {Os : Nat → Nat → Prop} {Ns : Nat → Nat} {M : Nat} (h : AllIs I cF cT G w wb L OL K Os Ns M) {cap : Int} (hp : BeginPost I cF cT w wb L OL K cap w') :
    ∃ L' OL' Os', AllIs I cF cT G w' wb L' OL' K Os' Ns M ∧ L'.tbs.length ≤ L.tbs.length + 1 ∧ Only G w w' := by
  have hnw := h.nw
  rcases hp with ⟨_, hb⟩ | ⟨tb, OL', O', hl, ht, ho, gL, hO, hd⟩
  · exact ⟨L, OL, Os, h.below sp hb, Nat.le_succ _, only_of_below hb G⟩
  have hlt : ∀ j, j < L.tbs.length → ∀ b, Os j b → b < w.heap.size := fun j hj => (h.tw j hj).lt sp
  have hlen : (L.tbs ++ [tb]).length = L.tbs.length + 1 := by simp
  refine ⟨_, OL', setO Os L.tbs.length O', ⟨hl, ?_, ?_, ?_, ?_, ?_, fun b hb2 => hnw b (Nat.le_trans ho.size hb2), h.mt, h.mi, h.mn⟩, Nat.le_of_eq hlen, ho.mono (fun b hb => h.bL b (.inl hb))⟩
  · intro j hj
    rw [hlen] at hj
    show TwIs I cF cT _ w' ((L.tbs ++ [tb]).getD j 0) (Ns j)
    by_cases e : j = L.tbs.length
    · subst e
      rw [setO_at]
      have : (L.tbs ++ [tb]).getD L.tbs.length 0 = tb := by simp
      rw [this]
      exact ht.is.mono (Nat.zero_le _)
    · rw [setO_ne _ _ _ _ e]
      have hj2 : j < L.tbs.length := by omega
      have : (L.tbs ++ [tb]).getD j 0 = L.tbs.getD j 0 := by rw [List.getD_eq_getElem?_getD, List.getD_eq_getElem?_getD, List.getElem?_append_left hj2]
      rw [this]
      exact (h.tw j hj2).keep sp ho.size (fun b hb => ho.block b (hlt j hj2 b hb) (h.d j hj2 b hb).1)
  · intro j hj b hb
    rw [hlen] at hj
    by_cases e : j = L.tbs.length
    · subst e
      rw [setO_at] at hb
      exact hd b hb
    · rw [setO_ne _ _ _ _ e] at hb
      have hj2 : j < L.tbs.length := by omega
      have h1 := h.d j hj2 b hb
      refine ⟨fun e2 => ?_, h1.2⟩
      rcases gL b e2 with e3 | e3
      · exact h1.1 e3
      · have := hlt j hj2 b hb; omega
  · intro i j hi hj hij b hb hb2
    rw [hlen] at hi hj
    by_cases e : i = L.tbs.length
    · subst e
      have e' : j ≠ L.tbs.length := fun e => hij e.symm
      rw [setO_at] at hb
      rw [setO_ne _ _ _ _ e'] at hb2
      have h1 := hO b hb
      have h2 := hlt j (by omega) b hb2
      omega
    · rw [setO_ne _ _ _ _ e] at hb
      by_cases e' : j = L.tbs.length
      · subst e'
        rw [setO_at] at hb2
        have h1 := hO b hb2
        have h2 := hlt i (by omega) b hb
        omega
      · rw [setO_ne _ _ _ _ e'] at hb2
        exact h.dd i j (by omega) (by omega) hij b hb hb2
  · rintro b (e | e)
    · rcases gL b e with e3 | e3
      · exact h.bL b (.inl e3)
      · exact hnw b e3
    · exact h.bL b (.inr e)
  · intro j hj b hb
    rw [hlen] at hj
    by_cases e : j = L.tbs.length
    · subst e
      rw [setO_at] at hb
      exact hnw b (hO b hb)
    · rw [setO_ne _ _ _ _ e] at hb
      exact h.bT j (by omega) b hb

theorem AllIs.widen {I : (Nat → Prop) → World → Nat → CopS → Prop} {cF cT : Nat} {G G' : Nat → Prop} {w : World} {wb : Nat} {L : LawS} {OL K : Nat → Prop} {Os : Nat → Nat → Prop} {Ns : Nat → Nat} {M : Nat} (h : AllIs I cF cT G w wb L OL K Os Ns M) (hG : ∀ b, G b → G' b) : AllIs I cF cT G' w wb L OL K Os Ns M :=
  ⟨h.law, h.tw, h.d, h.dd, fun b hb => hG b (h.bL b hb), fun j hj b hb => hG b (h.bT j hj b hb), fun b hb => hG b (h.nw b hb), h.mt, h.mi, h.mn⟩

end Go.Proofs.YtebfmcafmojlaaaGreatDoor

