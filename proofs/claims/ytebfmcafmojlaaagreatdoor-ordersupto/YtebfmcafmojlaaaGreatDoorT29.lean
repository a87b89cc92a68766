/-
  copselaw.World: asks: Support, walked.
-/
import Derived.Test.YtebfmcafmojlaaaGreatDoorT28
namespace Go.Proofs.YtebfmcafmojlaaaGreatDoor
open Go.RowKit
set_option linter.unusedSimpArgs false
set_option linter.unusedVariables false

theorem refSupport_is {O : Nat → Prop} {w : World} {r : Nat} {S : RefS} (h : RefIs O w r S) (ok : RefOk S) (on' : ∀ x ∈ S.order, x < S.names.length) (f : Tab) :
    Calls Tryz.prog 116 #[.pointer (some ⟨r, 0, none⟩), .int .u64 (f.toNat : Int)] w fun e w' =>
      ∃ v', e = .returned v' ∧ w'.ownsRow w.heap.size 9 1 v' (supportR S f).length ((supportR S f).map Value.string) ∧ Below w.heap.size w w' := by
  obtain ⟨nv, ov, lv, h⟩ := h
  exact refSupport h ok on' f

theorem supportR_len (S : RefS) (f : Tab) (h : S.order.length ≤ 6) : (supportR S f).length ≤ 6 := by
  unfold supportR
  rw [List.length_map]
  exact Nat.le_trans (varsT_len _ _) h

set_option maxHeartbeats 4000000 in
set_option maxRecDepth 20000 in
theorem asks_sup_bad {I : (Nat → Prop) → World → Nat → CopS → Prop} {cF cT : Nat} (sp : CopseSpec I cF cT) {w : World} {tb x r N : Nat} {C : CopS} {S : RefS} {l : List (Nat × Tab)} {av : Value} {OT OX OR : Nat → Prop} (st : TwSt I w tb x r C S l av OT OX OR) (ok : TwOk cF cT N C S l) (hN : N ≤ 3000000)
    (o : OpS) (fv : Value) (hF : FReads w.heap.size w fv (o.f.map zv)) (hFl : o.f.length ≤ 2000000) (hz : ∀ z ∈ o.f, i64ok z) (hs : o.s.size ≤ maxLen) (hk : o.kind = 7) (wb : Nat) (hp : sevB l o.f 0 = false) :
    Calls Tryz.prog 65 #[.pointer (some ⟨wb, 0, none⟩), .pointer (some ⟨tb, 0, none⟩), opv o fv] w fun e w' => e = .returned (.bool true) ∧ TwPost I cF cT w tb (N + 1) (Un OT OX OR) w' := by
  obtain ⟨fao, fcap, rfl⟩ := reads_form hF
  have hat := fun z hz2 wq hb => at_box2 sp st ok hN o fao fcap hF hFl hz z hz2 wq hb
  obtain ⟨kd, on, oa, ov, F, os⟩ := o
  dsimp only at hk hat hFl hs hp
  subst hk
  have htl := st.t.lt tb st.t.self
  have hX : w.cell? ⟨tb, 0, none⟩ = some (.pointer (some ⟨x, 0, none⟩)) := by rw [cell_of_heap st.t.cells]; rfl
  have hRp : w.cell? ⟨tb, 1, none⟩ = some (.pointer (some ⟨r, 0, none⟩)) := by rw [cell_of_heap st.t.cells]; rfl
  have hbw := (Below.refl w.heap.size w).alloc (Nat.le_refl _) (.cells #[.int .i64 7, .int .i64 on, .int .i64 oa, .bool ov, .slice fao F.length fcap, .string os] 66)
  have hbl := Below.refl (w.heap.size + 1) (w.alloc (.cells #[.int .i64 7, .int .i64 on, .int .i64 oa, .bool ov, .slice fao F.length fcap, .string os] 66))
  have hsz : w.heap.size + 1 ≤ (w.alloc (.cells #[.int .i64 7, .int .i64 on, .int .i64 oa, .bool ov, .slice fao F.length fcap, .string os] 66)).heap.size := by simp
  have hsup := fun wq (hc : I OX wq x C) => sp.sup_no hc (sevH l F 0) (sev_lt F 0 hp) (sev_ok ok F 0 (by omega))
  clear hF hz
  unfold opv
  dsimp only
  go_enter Tryz.func65, Tryz.ntmps65
  go_wp2_with (first
    | (go_at_call 110; refine (hat _ ?_ _ hbw).mono ?_; decide; rintro e wn ⟨rfl, hn⟩; replace hbw := hbw.trans (hn.mono hbw.size); replace hbl := hbl.trans (hn.mono hsz); replace hsz := Nat.le_trans hsz hn.size; clear hn; obtain ⟨b0, b1, b2, b3, b4, b5⟩ := box_cells hbl; have hXn := (hbw.cell (p := ⟨tb, 0, none⟩) htl).trans hX; have hRn := (hbw.cell (p := ⟨tb, 1, none⟩) htl).trans hRp)
    | (go_at_call 115; refine (hsup _ (st.below sp hbw).c).mono ?_; rintro e w2 ⟨sao, scap, rfl, hsc⟩)
    | (go_at_call 103; refine (lawNum _ _).mono ?_; rintro e w9 ⟨rfl, hq⟩; replace hq := hq.symm; subst hq))
  go_ret
  exact ⟨rfl, tw_same sp st ok hbw hsc (Below.refl _ _)⟩

/-- keepTexts, behind a list that came out of the program. -/
theorem sup_keep {I : (Nat → Prop) → World → Nat → CopS → Prop} {cF cT : Nat} {OL K : Nat → Prop} {w w1 w2 w4 : World} {wb : Nat} {L : LawS} {av tv mv iv nv : Value} (h : LawAt OL w wb L av tv mv iv nv) (hK : Kept K w L) (hd : ∀ b, OL b → ¬ K b) {tb x r : Nat} {C : CopS} {S : RefS} {l : List (Nat × Tab)} {tav : Value} {OT OX OR : Nat → Prop} (hd2 : ∀ b, Un OT OX OR b → ¬ OL b ∧ ¬ K b) (hn : L.n ≤ 100000000) (htl : L.texts.length ≤ 100000000)
    (sp : CopseSpec I cF cT) (st : TwSt I w tb x r C S l tav OT OX OR) (hb : Below w.heap.size w w1) (ho : Only OX w1 w2) {v : Value} {n : Nat} {xs : List Value} (hv : w2.ownsRow w1.heap.size 9 1 v n xs) (hb4 : Below w2.heap.size w2 w4) (hnl : n ≤ 2000000) :
    Calls Tryz.prog 118 #[.pointer (some ⟨wb, 0, none⟩), v] w4 fun e w' => e = .returned (.tuple #[]) ∧ KeepLPost OL K w4 wb L v w' 4 0 := by
  have hs1 := hb.size
  have hk : ∀ k, OL k ∨ K k → w4.heap[k]? = w.heap[k]? := by
    intro k hk
    have hlt : k < w.heap.size := hk.elim (h.lt k) (hK.lt k)
    have hs2 := ho.size
    rw [hb4.block k (by omega), ho.block k (by omega) (fun e => hk.elim (hd2 k (.inr (.inl e))).1 (hd2 k (.inr (.inl e))).2), hb.block k hlt]
  have hs : w.heap.size ≤ w4.heap.size := Nat.le_trans (Nat.le_trans hs1 ho.size) hb4.size
  refine lawKeepTexts (h.keep hs (fun k e => hk k (.inl e))) (hK.keep hs (fun k e => hk k (.inr e))) hd hn htl (ownsRow_base (owns_below hv hb4 (Nat.le_refl _)) (Nat.zero_le _)) ?_ hnl
  intro k e
  have h1 := (hv.lt k e).1
  exact ⟨fun e2 => by have := h.lt k e2; omega, fun e2 => by have := hK.lt k e2; omega⟩

set_option maxHeartbeats 4000000 in
set_option maxRecDepth 20000 in
theorem asks_sup {I : (Nat → Prop) → World → Nat → CopS → Prop} {cF cT : Nat} (sp : CopseSpec I cF cT) {w : World} {tb x r N : Nat} {C : CopS} {S : RefS} {l : List (Nat × Tab)} {av : Value} {OT OX OR : Nat → Prop} (st : TwSt I w tb x r C S l av OT OX OR) (ok : TwOk cF cT N C S l) (hN : N ≤ 3000000)
    (o : OpS) (fv : Value) (hF : FReads w.heap.size w fv (o.f.map zv)) (hFl : o.f.length ≤ 2000000) (hz : ∀ z ∈ o.f, i64ok z) (hs : o.s.size ≤ maxLen) (hk : o.kind = 7) (hp : sevB l o.f 0 = true) {wb : Nat} {L : LawS} {OL K : Nat → Prop} (hl : LawIs OL K w wb L) (hd2 : ∀ b, Un OT OX OR b → ¬ OL b ∧ ¬ K b) (hLn : L.n ≤ 100000000) (hLt : L.texts.length ≤ 100000000) :
    Calls Tryz.prog 65 #[.pointer (some ⟨wb, 0, none⟩), .pointer (some ⟨tb, 0, none⟩), opv o fv] w fun e w' => e = .returned (.bool true) ∧ AskPost I cF cT w tb (N + 1) (Un OT OX OR) wb L OL K w' := by
  obtain ⟨fao, fcap, rfl⟩ := reads_form hF
  have hat := fun z hz2 wq hb => at_box2 sp st ok hN o fao fcap hF hFl hz z hz2 wq hb
  obtain ⟨kd, on, oa, ov, F, os⟩ := o
  dsimp only at hk hat hFl hs hp
  subst hk
  have htl := st.t.lt tb st.t.self
  have hX : w.cell? ⟨tb, 0, none⟩ = some (.pointer (some ⟨x, 0, none⟩)) := by rw [cell_of_heap st.t.cells]; rfl
  have hRp : w.cell? ⟨tb, 1, none⟩ = some (.pointer (some ⟨r, 0, none⟩)) := by rw [cell_of_heap st.t.cells]; rfl
  have hbw := (Below.refl w.heap.size w).alloc (Nat.le_refl _) (.cells #[.int .i64 7, .int .i64 on, .int .i64 oa, .bool ov, .slice fao F.length fcap, .string os] 66)
  have hbl := Below.refl (w.heap.size + 1) (w.alloc (.cells #[.int .i64 7, .int .i64 on, .int .i64 oa, .bool ov, .slice fao F.length fcap, .string os] 66))
  have hsz : w.heap.size + 1 ≤ (w.alloc (.cells #[.int .i64 7, .int .i64 on, .int .i64 oa, .bool ov, .slice fao F.length fcap, .string os] 66)).heap.size := by simp
  obtain ⟨hd, hh, hT, _⟩ := sev_true ok F 0 hp
  have hsup := fun wq (hc : I OX wq x C) => sp.sup hc hd _ hT
  have href := fun wq (hq : RefIs OR wq r S) => refSupport_is hq (ok.ref hN) ok.ord (sevT l F 0)
  have hTl := supportR_len S (sevT l F 0) ok.ol
  have hTe : (varsT C.order [sevT l F 0]).map (fun u => C.names.getD u ByteArray.empty) = supportR S (sevT l F 0) := by rw [ok.order, ok.names]; rfl
  have hTn : (varsT C.order [sevT l F 0]).length = (supportR S (sevT l F 0)).length := by rw [← hTe, List.length_map]
  rw [hTe, hTn] at hsup
  generalize supportR S (sevT l F 0) = T at hsup href hTl
  clear hTe hTn
  obtain ⟨⟨lav, ltv, lmv, liv, lnv, hLa⟩, hKa, hdK⟩ := id hl
  clear hF hz
  unfold opv
  dsimp only
  go_enter Tryz.func65, Tryz.ntmps65
  go_wp2_with (first
    | (go_at_call 110; refine (hat _ ?_ _ hbw).mono ?_; decide; rintro e wn ⟨rfl, hn⟩; replace hbw := hbw.trans (hn.mono hbw.size); replace hbl := hbl.trans (hn.mono hsz); replace hsz := Nat.le_trans hsz hn.size; clear hn; obtain ⟨b0, b1, b2, b3, b4, b5⟩ := box_cells hbl; have hXn := (hbw.cell (p := ⟨tb, 0, none⟩) htl).trans hX; have hRn := (hbw.cell (p := ⟨tb, 1, none⟩) htl).trans hRp)
    | (go_at_call 115; refine (hsup _ (st.below sp hbw).c).mono ?_; rintro e w2 ⟨v, rfl, hvo, ho2, OX2, hc2, hg2, hvx⟩; obtain ⟨vao, vcap, rfl⟩ := owns_form hvo; obtain ⟨OX3, st2, _, _⟩ := (st.below sp hbw).stepC sp ⟨ho2, OX2, hc2, hg2⟩; have hr2 : w2.cell? ⟨tb, 1, none⟩ = some (.pointer (some ⟨r, 0, none⟩)) := (by rw [cell_of_heap st2.t.cells]; rfl))
    | (go_at_call 116; refine (href _ st2.s).mono ?_; rintro e w3 ⟨v3, rfl, hv3, hb3⟩)
    | (go_at_call 117; refine (lawSameTexts T _ _ _ w3.heap.size (reads_of_owns (owns_below hvo hb3 (Nat.le_refl _))) (reads_of_owns hv3) ?_).mono ?_; exact Nat.le_trans hTl (by decide); rintro e w4 ⟨rfl, hb4⟩)
    | (go_at_call 118; refine (sup_keep hLa hKa hdK hd2 hLn hLt sp st hbw ho2 hvo (hb3.trans (hb4.mono hb3.size)) (Nat.le_trans hTl (by decide))).mono ?_; rintro e w5 ⟨rfl, hkp⟩))
  go_ret
  exact ⟨rfl, (sup_post sp st ok hl hd2 hbw ho2 hc2 hg2 (fun k e => ⟨Nat.le_trans hbw.size (hvo.lt k e).1, (hvo.lt k e).2, hvx k e⟩) (hb3.trans (hb4.mono hb3.size)) (by decide) (by decide) hkp).1.post⟩

end Go.Proofs.YtebfmcafmojlaaaGreatDoor

