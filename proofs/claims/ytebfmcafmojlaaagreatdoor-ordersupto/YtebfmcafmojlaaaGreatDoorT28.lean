/-
  copselaw.twin: works: Not.
-/
import Derived.Test.YtebfmcafmojlaaaGreatDoorT27
namespace Go.Proofs.YtebfmcafmojlaaaGreatDoor
open Go.RowKit
set_option linter.unusedSimpArgs false
set_option linter.unusedVariables false

/-- Behind a step of a twin: it is a twin still; of the old blocks only its own have turned. -/
def TwPost (I : (Nat → Prop) → World → Nat → CopS → Prop) (cF cT : Nat) (w : World) (tb N : Nat) (O : Nat → Prop) (w' : World) : Prop := Only O w w' ∧ ∃ O', TwIs I cF cT O' w' tb N ∧ Grows w O O'

/-- The three kinds of blocks together. -/
def Un (OT OX OR : Nat → Prop) : Nat → Prop := fun b => OT b ∨ OX b ∨ OR b

theorem TwOk.mono {cF cT N N' : Nat} {C : CopS} {S : RefS} {l : List (Nat × Tab)} (ok : TwOk cF cT N C S l) (hN : N ≤ N') : TwOk cF cT N' C S l :=
  ⟨ok.cap, ok.names, ok.order, ok.ol, ok.o6, ok.on, ok.ord, Nat.le_trans ok.ll hN, ok.l2, Nat.le_trans ok.lN (by omega), ok.l0, ok.l1, ok.mem, ok.small, ok.lists⟩
theorem TwIs.mono {I : (Nat → Prop) → World → Nat → CopS → Prop} {cF cT : Nat} {O : Nat → Prop} {w : World} {tb N N' : Nat} (h : TwIs I cF cT O w tb N) (hN : N ≤ N') : TwIs I cF cT O w tb N' := by
  obtain ⟨x, r, C, S, l, av, OT, OX, OR, hs, ok, ho⟩ := h
  exact ⟨x, r, C, S, l, av, OT, OX, OR, hs, ⟨ok.cap, ok.names, ok.order, ok.ol, ok.o6, ok.on, ok.ord, Nat.le_trans ok.ll hN, ok.l2, Nat.le_trans ok.lN (by omega), ok.l0, ok.l1, ok.mem, ok.small, ok.lists⟩, ho⟩

/-- The same, with the document's copse S and the functions fs of its live handles told. -/
def TwIsX (I : (Nat → Prop) → World → Nat → CopS → Prop) (cF cT : Nat) (O : Nat → Prop) (w : World) (tb : Nat) (N : Nat) (S : RefS) (fs : List Tab) : Prop :=
  ∃ x r C l av OT OX OR, TwSt I w tb x r C S l av OT OX OR ∧ TwOk cF cT N C S l ∧ (∀ b, O b ↔ (OT b ∨ OX b ∨ OR b)) ∧ l.map Prod.snd = fs
theorem TwIsX.is {I : (Nat → Prop) → World → Nat → CopS → Prop} {cF cT : Nat} {O : Nat → Prop} {w : World} {tb N : Nat} {S : RefS} {fs : List Tab} (h : TwIsX I cF cT O w tb N S fs) : TwIs I cF cT O w tb N := by
  obtain ⟨x, r, C, l, av, OT, OX, OR, h1, h2, h3, _⟩ := h
  exact ⟨x, r, C, S, l, av, OT, OX, OR, h1, h2, h3⟩
def TwPostX (I : (Nat → Prop) → World → Nat → CopS → Prop) (cF cT : Nat) (w : World) (tb N : Nat) (O : Nat → Prop) (S : RefS) (fs : List Tab) (w' : World) : Prop := Only O w w' ∧ ∃ O', TwIsX I cF cT O' w' tb N S fs ∧ Grows w O O'
theorem TwPostX.post {I : (Nat → Prop) → World → Nat → CopS → Prop} {cF cT : Nat} {w w' : World} {tb N : Nat} {O : Nat → Prop} {S : RefS} {fs : List Tab} (h : TwPostX I cF cT w tb N O S fs w') : TwPost I cF cT w tb N O w' := by
  obtain ⟨h1, O', h2, h3⟩ := h
  exact ⟨h1, O', h2.is, h3⟩
def toldF (fs : List Tab) (t : Tab) : List Tab := if fs.any (fun q => q == t) then fs else fs ++ [t]
theorem toldL_map (l : List (Nat × Tab)) (hd : Nat) (t : Tab) : (toldL l hd t).map Prod.snd = toldF (l.map Prod.snd) t := by
  unfold toldL toldF
  have : l.any (fun p => p.2 == t) = (l.map Prod.snd).any (fun q => q == t) := by rw [List.any_map]; rfl
  rw [this]
  split <;> simp

/-- At what the raw numbers speak of. -/
theorem sev_true {cF cT N : Nat} {C : CopS} {S : RefS} {l : List (Nat × Tab)} (ok : TwOk cF cT N C S l) (F : List Int) (i : Nat) (h : sevB l F i = true) : ∃ hd : Nat, sevH l F i = hd ∧ C.T hd = some (sevT l F i) ∧ hd < handleMax := by
  unfold sevB at h
  unfold sevH sevT
  cases ha : atR l F i with
  | none => rw [ha] at h; cases h
  | some p =>
    refine ⟨p.1, rfl, ?_, ?_⟩ <;> (
      unfold atR at ha
      split at ha
      · cases ha
      · simp only [Option.some.injEq] at ha
        have hlt : (pickI (F.getD i 0) l.length).toNat < l.length := by
          have := pickI_lt (F.getD i 0) l.length (by have := ok.l2; omega)
          omega
        have hm := getD_mem hlt
        rw [ha] at hm
        first | exact (ok.mem p.1 p.2).2 hm | exact ok.small p hm)

theorem sev_false {l : List (Nat × Tab)} (F : List Int) (i : Nat) (h : sevB l F i = false) : sevH l F i = -1 - (i : Int) := by
  unfold sevB at h
  unfold sevH
  cases ha : atR l F i with
  | none => rfl
  | some p => rw [ha] at h; cases h

theorem sev_ok {cF cT N : Nat} {C : CopS} {S : RefS} {l : List (Nat × Tab)} (ok : TwOk cF cT N C S l) (F : List Int) (i : Nat) (hi : i ≤ 2000000) : i64ok (sevH l F i) := by
  cases h : sevB l F i
  · rw [sev_false F i h]; unfold i64ok; omega
  · obtain ⟨hd, e, _, hm⟩ := sev_true ok F i h
    rw [e]; unfold i64ok handleMax at *; omega

/-- The step of a refused call. -/
theorem tw_same {I : (Nat → Prop) → World → Nat → CopS → Prop} {cF cT : Nat} (sp : CopseSpec I cF cT) {w w1 w2 : World} {tb x r N : Nat} {C : CopS} {S : RefS} {l : List (Nat × Tab)} {av : Value} {OT OX OR : Nat → Prop} (h : TwSt I w tb x r C S l av OT OX OR) (ok : TwOk cF cT N C S l) (hb : Below w.heap.size w w1) (hs : CopStep I OX w1 x w2 C) {w3 : World} (hb2 : Below w2.heap.size w2 w3) :
    TwPost I cF cT w tb (N + 1) (Un OT OX OR) w3 := by
  obtain ⟨OX', h2, ho, hg⟩ := (h.below sp hb).stepC sp hs
  have h3 := h2.below sp hb2
  refine ⟨?_, Un OT OX' OR, TwIs.mono ⟨x, r, C, S, l, av, OT, OX', OR, h3, ok, fun b => Iff.rfl⟩ (Nat.le_succ N), ?_⟩
  · exact ((only_of_below hb _).trans (ho.mono (O' := Un OT OX OR) (fun b hb => .inr (.inl hb))) (Grows.refl _ _)).then_below hb2
  · intro b hb'
    rcases hb' with e | e | e
    · exact .inl (.inl e)
    · rcases hg b e with e | e
      · exact .inl (.inr (.inl e))
      · exact .inr (Nat.le_trans hb.size e)
    · exact .inl (.inr (.inr e))

theorem grows3 {w w1 : World} {OT OX OR OT' OX' OR' : Nat → Prop} (h : w.heap.size ≤ w1.heap.size) (h1 : Grows w1 OT OT') (h2 : Grows w1 OX OX') (h3 : Grows w1 OR OR') : Grows w (Un OT OX OR) (Un OT' OX' OR') := by
  intro b hb
  rcases hb with e | e | e
  · rcases h1 b e with e | e
    · exact .inl (.inl e)
    · exact .inr (Nat.le_trans h e)
  · rcases h2 b e with e | e
    · exact .inl (.inr (.inl e))
    · exact .inr (Nat.le_trans h e)
  · rcases h3 b e with e | e
    · exact .inl (.inr (.inr e))
    · exact .inr (Nat.le_trans h e)

/-- An answer that both sides gave: the twin in the midst of it. -/
structure Mid (I : (Nat → Prop) → World → Nat → CopS → Prop) (cF cT : Nat) (w w3 : World) (tb x r N : Nat) (C' : CopS) (S' : RefS) (l : List (Nat × Tab)) (av : Value) (OT OX OR OX' OR' : Nat → Prop) (hd : Nat) (t : Tab) : Prop where
  st : TwSt I w3 tb x r C' S' l av OT OX' OR'
  only : Only (Un OT OX OR) w w3
  grows : Grows w (Un OT OX OR) (Un OT OX' OR')
  l2 : 0 < l.length
  ll : l.length ≤ 4000000
  hm : hd < 4611686018427387904
  alike : ∀ k, k < l.length → ((l.getD k (0, 0)).1 = hd ↔ (l.getD k (0, 0)).2 = t)
  small : ∀ k, k < l.length → (l.getD k (0, 0)).1 < 4611686018427387904
  ok : TwOk cF cT (N + 1) C' S' (toldL l hd t)

theorem Mid.post {I : (Nat → Prop) → World → Nat → CopS → Prop} {cF cT : Nat} (sp : CopseSpec I cF cT) {w w3 w4 : World} {tb x r N : Nat} {C' : CopS} {S' : RefS} {l : List (Nat × Tab)} {av : Value} {OT OX OR OX' OR' : Nat → Prop} {hd : Nat} {t : Tab}
    (h : Mid I cF cT w w3 tb x r N C' S' l av OT OX OR OX' OR' hd t) (hs : TwinStep OT w3 tb x r w4 (toldL l hd t)) : TwPost I cF cT w tb (N + 1) (Un OT OX OR) w4 := by
  obtain ⟨OT', av', h4, ho, hg⟩ := h.st.stepT sp hs
  refine ⟨?_, Un OT' OX' OR', ⟨x, r, C', S', _, av', OT', OX', OR', h4, h.ok, fun b => Iff.rfl⟩, ?_⟩
  · exact h.only.trans (ho.mono (O' := Un OT OX OR) (fun b hb => .inl hb)) (Grows.refl _ _)
  · intro b hb
    rcases hb with e | e | e
    · rcases hg b e with e | e
      · exact .inl (.inl e)
      · exact .inr (Nat.le_trans h.only.size e)
    · exact h.grows b (.inr (.inl e))
    · exact h.grows b (.inr (.inr e))

theorem Mid.postx {I : (Nat → Prop) → World → Nat → CopS → Prop} {cF cT : Nat} (sp : CopseSpec I cF cT) {w w3 w4 : World} {tb x r N : Nat} {C' : CopS} {S' : RefS} {l : List (Nat × Tab)} {av : Value} {OT OX OR OX' OR' : Nat → Prop} {hd : Nat} {t : Tab}
    (h : Mid I cF cT w w3 tb x r N C' S' l av OT OX OR OX' OR' hd t) (hs : TwinStep OT w3 tb x r w4 (toldL l hd t)) : TwPostX I cF cT w tb (N + 1) (Un OT OX OR) S' (toldF (l.map Prod.snd) t) w4 := by
  obtain ⟨OT', av', h4, ho, hg⟩ := h.st.stepT sp hs
  refine ⟨?_, Un OT' OX' OR', ⟨x, r, C', _, av', OT', OX', OR', h4, h.ok, fun b => Iff.rfl, toldL_map _ _ _⟩, ?_⟩
  · exact h.only.trans (ho.mono (O' := Un OT OX OR) (fun b hb => .inl hb)) (Grows.refl _ _)
  · intro b hb
    rcases hb with e | e | e
    · rcases hg b e with e | e
      · exact .inl (.inl e)
      · exact .inr (Nat.le_trans h.only.size e)
    · exact h.grows b (.inr (.inl e))
    · exact h.grows b (.inr (.inr e))

theorem mid_of {I : (Nat → Prop) → World → Nat → CopS → Prop} {cF cT : Nat} (sp : CopseSpec I cF cT) {w w1 w2 w3 : World} {tb x r N : Nat} {C : CopS} {S : RefS} {l : List (Nat × Tab)} {av : Value} {OT OX OR : Nat → Prop} (h : TwSt I w tb x r C S l av OT OX OR) (ok : TwOk cF cT N C S l) (hN : N ≤ 3000000) (hb : Below w.heap.size w w1)
    {hd : Nat} {t : Tab} (hm : hd < handleMax) (hf : ∀ f, C.T hd = some f → f = t) (names : List ByteArray) (order : List Nat) (h1 : order.length ≤ 6) (h2 : ∀ x ∈ order, x < 6) (h3 : order.length = names.length) (h4 : ∀ x ∈ order, x < names.length)
    (hs : CopStep I OX w1 x w2 { C with names := names, order := order, T := updT C.T hd t }) (hr : RefStep OR w2 r w3 { S with names := names, order := order, live := withT S.live [t] }) :
    ∃ OX' OR', Mid I cF cT w w3 tb x r N { C with names := names, order := order, T := updT C.T hd t } { S with names := names, order := order, live := withT S.live [t] } l av OT OX OR OX' OR' hd t := by
  obtain ⟨OX', g2, ho2, hg2⟩ := (h.below sp hb).stepC sp hs
  obtain ⟨OR', g3, ho3, hg3⟩ := g2.stepS sp hr
  have inj : ∀ {a b f}, updT C.T hd t a = some f → updT C.T hd t b = some f → a = b := fun {a b f} ha hb => sp.inj g3.c (h := a) (h' := b) (f := f) ha hb
  refine ⟨OX', OR', ⟨g3, ?_, ?_, ?_, ?_, hm, ok.alike hf inj, ?_, ok.told hm hf inj names order h1 h2 h3 h4⟩⟩
  · have o1 : Only (Un OT OX OR) w w2 := (only_of_below hb _).trans (ho2.mono (O' := Un OT OX OR) (fun b hb => .inr (.inl hb))) (Grows.refl _ _)
    exact o1.trans (ho3.mono (O' := Un OT OX OR) (fun b hb => .inr (.inr hb))) (Grows.refl _ _)
  · intro b hb'
    rcases hb' with e | e | e
    · exact .inl (.inl e)
    · rcases hg2 b e with e | e
      · exact .inl (.inr (.inl e))
      · exact .inr (Nat.le_trans hb.size e)
    · rcases hg3 b e with e | e
      · exact .inl (.inr (.inr e))
      · exact .inr (Nat.le_trans (Nat.le_trans hb.size ho2.size) e)
  · have := ok.l2; omega
  · have := ok.lN; omega
  · intro k hk; exact ok.small _ (getD_mem hk)

end Go.Proofs.YtebfmcafmojlaaaGreatDoor

/-
  copselaw.twin: works: Not.
-/
namespace Go.Proofs.YtebfmcafmojlaaaGreatDoor
open Go.RowKit
set_option linter.unusedSimpArgs false
set_option linter.unusedVariables false

theorem reads_form {B : Nat} {w : World} {fv : Value} {F : List Int} (h : FReads B w fv (F.map zv)) : ∃ ao cap, fv = .slice ao F.length cap := by
  rcases h with ⟨hn, fao, fcap, rfl⟩ | ⟨fb, fo, fcap, rfl, hfB, hfc⟩
  · have : F = [] := by simpa using hn
    rw [this]; exact ⟨_, _, rfl⟩
  · rw [List.length_map]; exact ⟨_, _, rfl⟩

/-- 'at', in whatever world behind the box of the step. -/
theorem at_box {I : (Nat → Prop) → World → Nat → CopS → Prop} {cF cT : Nat} (sp : CopseSpec I cF cT) {w : World} {tb x r N : Nat} {C : CopS} {S : RefS} {l : List (Nat × Tab)} {av : Value} {OT OX OR : Nat → Prop} (h : TwSt I w tb x r C S l av OT OX OR) (ok : TwOk cF cT N C S l) (hN : N ≤ 3000000)
    (o : OpS) (fao : Option Addr) (fcap : Nat) (hF : FReads w.heap.size w (.slice fao o.f.length fcap) (o.f.map zv)) (hFl : o.f.length ≤ 2000000) (hz : ∀ z ∈ o.f, i64ok z) (i : Nat) (hi : i ≤ 2000000) (wq : World) (hb : Below w.heap.size w wq) :
    Calls Tryz.prog 110 #[.pointer (some ⟨tb, 0, none⟩), .agg #[.int .i64 o.kind, .int .i64 o.on, .int .i64 o.a, .bool o.v, .slice fao o.f.length fcap, .string o.s], .int .i64 i] wq fun e w' => e = .returned (.tuple #[.int .i64 (sevH l o.f i), .int .u64 ((sevT l o.f i).toNat : Int), .bool (sevB l o.f i)]) ∧ Below wq.heap.size wq w' := by
  rw [← atV_eq]
  have hl2 := ok.l2
  have hlN := ok.lN
  exact lawAt_rest (h.t.below hb) (by omega) (by omega) o _ (B := w.heap.size) hb.size (hF.below hb (Nat.le_refl _)) hFl hz i hi

theorem at_box2 {I : (Nat → Prop) → World → Nat → CopS → Prop} {cF cT : Nat} (sp : CopseSpec I cF cT) {w : World} {tb x r N : Nat} {C : CopS} {S : RefS} {l : List (Nat × Tab)} {av : Value} {OT OX OR : Nat → Prop} (h : TwSt I w tb x r C S l av OT OX OR) (ok : TwOk cF cT N C S l) (hN : N ≤ 3000000)
    (o : OpS) (fao : Option Addr) (fcap : Nat) (hF : FReads w.heap.size w (.slice fao o.f.length fcap) (o.f.map zv)) (hFl : o.f.length ≤ 2000000) (hz : ∀ z ∈ o.f, i64ok z) (z : Int) (hz2 : z = 0 ∨ z = 1 ∨ z = 2) (wq : World) (hb : Below w.heap.size w wq) :
    Calls Tryz.prog 110 #[.pointer (some ⟨tb, 0, none⟩), .agg #[.int .i64 o.kind, .int .i64 o.on, .int .i64 o.a, .bool o.v, .slice fao o.f.length fcap, .string o.s], .int .i64 z] wq fun e w' => e = .returned (.tuple #[.int .i64 (sevH l o.f z.toNat), .int .u64 ((sevT l o.f z.toNat).toNat : Int), .bool (sevB l o.f z.toNat)]) ∧ Below wq.heap.size wq w' := by
  have : ((z.toNat : Nat) : Int) = z := by omega
  have h2 := at_box sp h ok hN o fao fcap hF hFl hz z.toNat (by omega) wq hb
  rw [this] at h2
  exact h2

theorem box_cells {w wq : World} {a0 a1 a2 a3 a4 a5 : Value} {T : TypeId} (hb : Below (w.heap.size + 1) (w.alloc (.cells #[a0, a1, a2, a3, a4, a5] T)) wq) :
    wq.cell? ⟨w.heap.size, 0, none⟩ = some a0 ∧ wq.cell? ⟨w.heap.size, 1, none⟩ = some a1 ∧ wq.cell? ⟨w.heap.size, 2, none⟩ = some a2 ∧ wq.cell? ⟨w.heap.size, 3, none⟩ = some a3 ∧ wq.cell? ⟨w.heap.size, 4, none⟩ = some a4 ∧ wq.cell? ⟨w.heap.size, 5, none⟩ = some a5 :=
  cells6 ((hb.block w.heap.size (by omega)).trans (heap_alloc_new w _))

set_option maxHeartbeats 4000000 in
set_option maxRecDepth 20000 in
theorem works_not_bad {I : (Nat → Prop) → World → Nat → CopS → Prop} {cF cT : Nat} (sp : CopseSpec I cF cT) {w : World} {tb x r N : Nat} {C : CopS} {S : RefS} {l : List (Nat × Tab)} {av : Value} {OT OX OR : Nat → Prop} (h : TwSt I w tb x r C S l av OT OX OR) (ok : TwOk cF cT N C S l) (hN : N ≤ 3000000)
    (o : OpS) (fv : Value) (hF : FReads w.heap.size w fv (o.f.map zv)) (hFl : o.f.length ≤ 2000000) (hz : ∀ z ∈ o.f, i64ok z) (hk : o.kind = 3) (hp : sevB l o.f 0 = false) :
    Calls Tryz.prog 64 #[.pointer (some ⟨tb, 0, none⟩), opv o fv] w fun e w' => e = .returned (.bool true) ∧ TwPost I cF cT w tb (N + 1) (Un OT OX OR) w' := by
  obtain ⟨fao, fcap, rfl⟩ := reads_form hF
  have hat := fun z hz2 wq hb => at_box2 sp h ok hN o fao fcap hF hFl hz z hz2 wq hb
  obtain ⟨kd, on, oa, ov, F, os⟩ := o
  dsimp only at hk hp hat hFl
  subst hk
  have hnot := fun wq (hc : I OX wq x C) => sp.not_no hc (-1) (by omega) (by unfold i64ok; omega)
  have hh := sev_false F 0 hp
  simp only [Int.natCast_zero, Int.sub_zero] at hh
  have htl := h.t.lt tb h.t.self
  have hX : w.cell? ⟨tb, 0, none⟩ = some (.pointer (some ⟨x, 0, none⟩)) := by rw [cell_of_heap h.t.cells]; rfl
  have hbw := (Below.refl w.heap.size w).alloc (Nat.le_refl _) (.cells #[.int .i64 3, .int .i64 on, .int .i64 oa, .bool ov, .slice fao F.length fcap, .string os] 66)
  have hbl := Below.refl (w.heap.size + 1) (w.alloc (.cells #[.int .i64 3, .int .i64 on, .int .i64 oa, .bool ov, .slice fao F.length fcap, .string os] 66))
  have hsz : w.heap.size + 1 ≤ (w.alloc (.cells #[.int .i64 3, .int .i64 on, .int .i64 oa, .bool ov, .slice fao F.length fcap, .string os] 66)).heap.size := by simp
  clear hF hz
  unfold opv
  dsimp only
  go_enter Tryz.func64, Tryz.ntmps64
  go_wp2_with (first
    | (go_at_call 110; refine (hat _ ?_ _ hbw).mono ?_; decide; rintro e wn ⟨rfl, hn⟩; replace hbw := hbw.trans (hn.mono hbw.size); replace hbl := hbl.trans (hn.mono hsz); replace hsz := Nat.le_trans hsz hn.size; clear hn; obtain ⟨b0, b1, b2, b3, b4, b5⟩ := box_cells hbl; have hXn := (hbw.cell (p := ⟨tb, 0, none⟩) htl).trans hX)
    | (go_at_call 24; refine (hnot _ (h.below sp hbw).c).mono ?_; rintro e w2 ⟨rfl, hs⟩)
    | (go_at_call 63; refine (lawAnswer_no _ _ 4 (by decide) _).mono ?_; rintro e w3 ⟨rfl, hq⟩; replace hq := hq.symm; subst hq))
  go_ret
  exact ⟨rfl, tw_same sp h ok hbw hs (Below.refl _ _)⟩

end Go.Proofs.YtebfmcafmojlaaaGreatDoor

/-
  copselaw.twin: works: Not, Ite, Restrict.
-/
namespace Go.Proofs.YtebfmcafmojlaaaGreatDoor
open Go.RowKit
set_option linter.unusedSimpArgs false
set_option linter.unusedVariables false

theorem RefStep.toS {O : Nat → Prop} {w w' : World} {r : Nat} {S S' : RefS} (h : RefStep O w r w' S) (e : S = S') : RefStep O w r w' S' := e ▸ h

/-- Both sides refused: nothing has turned. -/
theorem tw_same2 {I : (Nat → Prop) → World → Nat → CopS → Prop} {cF cT : Nat} (sp : CopseSpec I cF cT) {w w1 w2 w3 : World} {tb x r N : Nat} {C : CopS} {S : RefS} {l : List (Nat × Tab)} {av : Value} {OT OX OR : Nat → Prop} (h : TwSt I w tb x r C S l av OT OX OR) (ok : TwOk cF cT N C S l) (hb : Below w.heap.size w w1) (hs : CopStep I OX w1 x w2 C) (hr : RefStep OR w2 r w3 S) :
    TwPost I cF cT w tb (N + 1) (Un OT OX OR) w3 := by
  obtain ⟨OX', h2, ho, hg⟩ := (h.below sp hb).stepC sp hs
  obtain ⟨OR', h3, ho3, hg3⟩ := h2.stepS sp hr
  refine ⟨?_, Un OT OX' OR', TwIs.mono ⟨x, r, C, S, l, av, OT, OX', OR', h3, ok, fun b => Iff.rfl⟩ (Nat.le_succ N), ?_⟩
  · have o1 : Only (Un OT OX OR) w w2 := (only_of_below hb _).trans (ho.mono (O' := Un OT OX OR) (fun b hb => .inr (.inl hb))) (Grows.refl _ _)
    exact o1.trans (ho3.mono (O' := Un OT OX OR) (fun b hb => .inr (.inr hb))) (Grows.refl _ _)
  · intro b hb'
    rcases hb' with e | e | e
    · exact .inl (.inl e)
    · rcases hg b e with e | e
      · exact .inl (.inr (.inl e))
      · exact .inr (Nat.le_trans hb.size e)
    · rcases hg3 b e with e | e
      · exact .inl (.inr (.inr e))
      · exact .inr (Nat.le_trans (Nat.le_trans hb.size ho.size) e)

theorem post_full {I : (Nat → Prop) → World → Nat → CopS → Prop} {O : Nat → Prop} {w : World} {x : Nat} {C : CopS} {full : Prop} {C' : Nat → CopS} {t : Tab} {f : FuncId} {args : Array Value} (h : Calls Tryz.prog f args w (PostTell I O w x C full C' t)) (hf : full) : Calls Tryz.prog f args w fun e w' => e = .returned (.tuple #[.int .i64 0, .int .i64 5]) ∧ CopStep I O w x w' C := by
  refine h.mono ?_
  rintro e w' (⟨_, h1, h2⟩ | ⟨h1, _⟩)
  · exact ⟨h1, h2⟩
  · exact absurd hf h1

theorem post_room {I : (Nat → Prop) → World → Nat → CopS → Prop} {O : Nat → Prop} {w : World} {x : Nat} {C : CopS} {full : Prop} {C' : Nat → CopS} {t : Tab} {f : FuncId} {args : Array Value} (h : Calls Tryz.prog f args w (PostTell I O w x C full C' t)) (hf : ¬ full) : Calls Tryz.prog f args w fun e w' => ∃ hd : Nat, e = .returned (.tuple #[.int .i64 hd, .int .i64 0]) ∧ hd < handleMax ∧ (∀ f, C.T hd = some f → f = t) ∧ CopStep I O w x w' (C' hd) := by
  refine h.mono ?_
  rintro e w' (⟨h1, _⟩ | ⟨_, hd, h1, h2, h3, h4⟩)
  · exact absurd h1 hf
  · exact ⟨hd, h3, h1, h2, h4⟩

theorem tell_full {cF cT N : Nat} {C : CopS} {S : RefS} {l : List (Nat × Tab)} (ok : TwOk cF cT N C S l) {t : Tab} (hf : fullC C S.live t) : tellR S [t] = (5, S) := by
  have : S.cap < ((allT S.order (withT S.live [t])).length : Int) := by rw [← ok.cap, ← ok.order]; exact hf
  unfold tellR
  rw [if_pos this]

theorem tell_room {cF cT N : Nat} {C : CopS} {S : RefS} {l : List (Nat × Tab)} (ok : TwOk cF cT N C S l) {t : Tab} (hf : ¬ fullC C S.live t) : tellR S [t] = (0, { S with names := S.names, order := S.order, live := withT S.live [t] }) := by
  have : ¬ S.cap < ((allT S.order (withT S.live [t])).length : Int) := by rw [← ok.cap, ← ok.order]; exact hf
  unfold tellR
  rw [if_neg this]

theorem toldC_eq {cF cT N : Nat} {C : CopS} {S : RefS} {l : List (Nat × Tab)} (ok : TwOk cF cT N C S l) (t : Tab) (hd : Nat) : toldC C t hd = { C with names := S.names, order := S.order, T := updT C.T hd t } := by
  unfold toldC
  rw [← ok.names, ← ok.order]

theorem ite_tab (f g h : Tab) : bits .or .u64 (bits .and .u64 (f.toNat : Int) (g.toNat : Int)) (bits .and .u64 (bits .xor .u64 IntKind.u64.max (f.toNat : Int)) (h.toNat : Int)) = ((iteT f g h).toNat : Int) := by
  rw [not_tab, bits_and_tab, bits_and_tab, bits_or_tab]
  rfl

set_option maxHeartbeats 4000000 in
set_option maxRecDepth 20000 in
theorem works_not_full {I : (Nat → Prop) → World → Nat → CopS → Prop} {cF cT : Nat} (sp : CopseSpec I cF cT) {w : World} {tb x r N : Nat} {C : CopS} {S : RefS} {l : List (Nat × Tab)} {av : Value} {OT OX OR : Nat → Prop} (st : TwSt I w tb x r C S l av OT OX OR) (ok : TwOk cF cT N C S l) (hN : N ≤ 3000000)
    (o : OpS) (fv : Value) (hF : FReads w.heap.size w fv (o.f.map zv)) (hFl : o.f.length ≤ 2000000) (hz : ∀ z ∈ o.f, i64ok z) (hs : o.s.size ≤ maxLen) (hk : o.kind = 3) (hp : sevB l o.f 0 = true) (hf : fullC C S.live (~~~ (sevT l o.f 0))) :
    Calls Tryz.prog 64 #[.pointer (some ⟨tb, 0, none⟩), opv o fv] w fun e w' => e = .returned (.bool true) ∧ TwPost I cF cT w tb (N + 1) (Un OT OX OR) w' := by
  obtain ⟨fao, fcap, rfl⟩ := reads_form hF
  have hat := fun z hz2 wq hb => at_box2 sp st ok hN o fao fcap hF hFl hz z hz2 wq hb
  obtain ⟨kd, on, oa, ov, F, os⟩ := o
  dsimp only at hk hat hFl hs hp hf
  subst hk
  have htl := st.t.lt tb st.t.self
  have hX : w.cell? ⟨tb, 0, none⟩ = some (.pointer (some ⟨x, 0, none⟩)) := by rw [cell_of_heap st.t.cells]; rfl
  have hRp : w.cell? ⟨tb, 1, none⟩ = some (.pointer (some ⟨r, 0, none⟩)) := by rw [cell_of_heap st.t.cells]; rfl
  have hbw := (Below.refl w.heap.size w).alloc (Nat.le_refl _) (.cells #[.int .i64 3, .int .i64 on, .int .i64 oa, .bool ov, .slice fao F.length fcap, .string os] 66)
  have hbl := Below.refl (w.heap.size + 1) (w.alloc (.cells #[.int .i64 3, .int .i64 on, .int .i64 oa, .bool ov, .slice fao F.length fcap, .string os] 66))
  have hsz : w.heap.size + 1 ≤ (w.alloc (.cells #[.int .i64 3, .int .i64 on, .int .i64 oa, .bool ov, .slice fao F.length fcap, .string os] 66)).heap.size := by simp
  obtain ⟨hd, hh, hT, _⟩ := sev_true ok F 0 hp
  have hn := not_tab (sevT l F 0)
  have hnot := fun wq (hc : I OX wq x C) => post_full (sp.not hc S.live ok.lists hd _ hT) hf
  have htell := fun wq (hq : RefIs OR wq r S) => refTell_one (~~~ (sevT l F 0)) hq (ok.ref hN)
  rw [tell_full ok hf] at htell
  generalize ~~~ (sevT l F 0) = t at hn htell hf
  clear hF hz
  unfold opv
  dsimp only
  go_enter Tryz.func64, Tryz.ntmps64
  go_wp2_with (first
    | (go_at_call 110; refine (hat _ ?_ _ hbw).mono ?_; decide; rintro e wn ⟨rfl, hn⟩; replace hbw := hbw.trans (hn.mono hbw.size); replace hbl := hbl.trans (hn.mono hsz); replace hsz := Nat.le_trans hsz hn.size; clear hn; obtain ⟨b0, b1, b2, b3, b4, b5⟩ := box_cells hbl; have hXn := (hbw.cell (p := ⟨tb, 0, none⟩) htl).trans hX; have hRn := (hbw.cell (p := ⟨tb, 1, none⟩) htl).trans hRp)
    | (go_at_call 24; refine (hnot _ (st.below sp hbw).c).mono ?_; rintro e w2 ⟨rfl, hsc⟩; obtain ⟨OX2, st2, ho2, hg2⟩ := (st.below sp hbw).stepC sp hsc; have hR2 : w2.cell? ⟨tb, 1, none⟩ = some (.pointer (some ⟨r, 0, none⟩)) := (by rw [cell_of_heap st2.t.cells]; rfl); skip)
    | (go_at_call 111; refine (htell _ st2.s).mono ?_; rintro e w3 ⟨rfl, hsr⟩)
    | (go_at_call 63; refine (lawAnswer_no _ _ 5 (by decide) _).mono ?_; rintro e w9 ⟨rfl, hq⟩; replace hq := hq.symm; subst hq))
  go_ret
  exact ⟨rfl, tw_same2 sp st ok hbw hsc hsr⟩

set_option maxHeartbeats 4000000 in
set_option maxRecDepth 20000 in
theorem works_not_room {I : (Nat → Prop) → World → Nat → CopS → Prop} {cF cT : Nat} (sp : CopseSpec I cF cT) {w : World} {tb x r N : Nat} {C : CopS} {S : RefS} {l : List (Nat × Tab)} {av : Value} {OT OX OR : Nat → Prop} (st : TwSt I w tb x r C S l av OT OX OR) (ok : TwOk cF cT N C S l) (hN : N ≤ 3000000)
    (o : OpS) (fv : Value) (hF : FReads w.heap.size w fv (o.f.map zv)) (hFl : o.f.length ≤ 2000000) (hz : ∀ z ∈ o.f, i64ok z) (hs : o.s.size ≤ maxLen) (hk : o.kind = 3) (hp : sevB l o.f 0 = true) (hf : ¬ fullC C S.live (~~~ (sevT l o.f 0))) :
    Calls Tryz.prog 64 #[.pointer (some ⟨tb, 0, none⟩), opv o fv] w fun e w' => e = .returned (.bool true) ∧ TwPostX I cF cT w tb (N + 1) (Un OT OX OR) { S with names := S.names, order := S.order, live := withT S.live [~~~ (sevT l o.f 0)] } (toldF (l.map Prod.snd) (~~~ (sevT l o.f 0))) w' := by
  obtain ⟨fao, fcap, rfl⟩ := reads_form hF
  have hat := fun z hz2 wq hb => at_box2 sp st ok hN o fao fcap hF hFl hz z hz2 wq hb
  obtain ⟨kd, on, oa, ov, F, os⟩ := o
  dsimp only at hk hat hFl hs hp hf ⊢
  subst hk
  have htl := st.t.lt tb st.t.self
  have hX : w.cell? ⟨tb, 0, none⟩ = some (.pointer (some ⟨x, 0, none⟩)) := by rw [cell_of_heap st.t.cells]; rfl
  have hRp : w.cell? ⟨tb, 1, none⟩ = some (.pointer (some ⟨r, 0, none⟩)) := by rw [cell_of_heap st.t.cells]; rfl
  have hbw := (Below.refl w.heap.size w).alloc (Nat.le_refl _) (.cells #[.int .i64 3, .int .i64 on, .int .i64 oa, .bool ov, .slice fao F.length fcap, .string os] 66)
  have hbl := Below.refl (w.heap.size + 1) (w.alloc (.cells #[.int .i64 3, .int .i64 on, .int .i64 oa, .bool ov, .slice fao F.length fcap, .string os] 66))
  have hsz : w.heap.size + 1 ≤ (w.alloc (.cells #[.int .i64 3, .int .i64 on, .int .i64 oa, .bool ov, .slice fao F.length fcap, .string os] 66)).heap.size := by simp
  obtain ⟨hd, hh, hT, _⟩ := sev_true ok F 0 hp
  have hn := not_tab (sevT l F 0)
  have hnot := fun wq (hc : I OX wq x C) => post_room (sp.not hc S.live ok.lists hd _ hT) hf
  have htell := fun wq (hq : RefIs OR wq r S) => refTell_one (~~~ (sevT l F 0)) hq (ok.ref hN)
  rw [tell_room ok hf] at htell
  generalize ~~~ (sevT l F 0) = t at hn htell hf hnot ⊢
  clear hF hz
  unfold opv
  dsimp only
  go_enter Tryz.func64, Tryz.ntmps64
  go_wp2_with (first
    | (go_at_call 110; refine (hat _ ?_ _ hbw).mono ?_; decide; rintro e wn ⟨rfl, hn⟩; replace hbw := hbw.trans (hn.mono hbw.size); replace hbl := hbl.trans (hn.mono hsz); replace hsz := Nat.le_trans hsz hn.size; clear hn; obtain ⟨b0, b1, b2, b3, b4, b5⟩ := box_cells hbl; have hXn := (hbw.cell (p := ⟨tb, 0, none⟩) htl).trans hX; have hRn := (hbw.cell (p := ⟨tb, 1, none⟩) htl).trans hRp)
    | (go_at_call 24; refine (hnot _ (st.below sp hbw).c).mono ?_; rintro e w2 ⟨hd2, rfl, hm, hfr, hsc⟩; obtain ⟨OX2, st2, ho2, hg2⟩ := (st.below sp hbw).stepC sp hsc; have hR2 : w2.cell? ⟨tb, 1, none⟩ = some (.pointer (some ⟨r, 0, none⟩)) := (by rw [cell_of_heap st2.t.cells]; rfl); skip)
    | (go_at_call 111; refine (htell _ st2.s).mono ?_; rintro e w3 ⟨rfl, hsr⟩; rw [toldC_eq ok] at hsc; obtain ⟨OX', OR', mid⟩ := mid_of sp st ok hN hbw hm hfr S.names S.order ok.ol ok.o6 ok.on ok.ord hsc hsr)
    | (go_at_call 63; refine (lawAnswer_yes mid.st.t mid.l2 mid.ll _ mid.hm _ mid.alike mid.small).mono ?_; rintro e w9 ⟨rfl, hts⟩))
  go_ret
  exact ⟨rfl, mid.postx sp hts⟩

set_option maxHeartbeats 4000000 in
set_option maxRecDepth 20000 in
theorem works_ite_full {I : (Nat → Prop) → World → Nat → CopS → Prop} {cF cT : Nat} (sp : CopseSpec I cF cT) {w : World} {tb x r N : Nat} {C : CopS} {S : RefS} {l : List (Nat × Tab)} {av : Value} {OT OX OR : Nat → Prop} (st : TwSt I w tb x r C S l av OT OX OR) (ok : TwOk cF cT N C S l) (hN : N ≤ 3000000)
    (o : OpS) (fv : Value) (hF : FReads w.heap.size w fv (o.f.map zv)) (hFl : o.f.length ≤ 2000000) (hz : ∀ z ∈ o.f, i64ok z) (hs : o.s.size ≤ maxLen) (hk : o.kind = 4) (hp : sevB l o.f 0 = true ∧ sevB l o.f 1 = true ∧ sevB l o.f 2 = true) (hf : fullC C S.live (iteT (sevT l o.f 0) (sevT l o.f 1) (sevT l o.f 2))) :
    Calls Tryz.prog 64 #[.pointer (some ⟨tb, 0, none⟩), opv o fv] w fun e w' => e = .returned (.bool true) ∧ TwPost I cF cT w tb (N + 1) (Un OT OX OR) w' := by
  obtain ⟨fao, fcap, rfl⟩ := reads_form hF
  have hat := fun z hz2 wq hb => at_box2 sp st ok hN o fao fcap hF hFl hz z hz2 wq hb
  obtain ⟨kd, on, oa, ov, F, os⟩ := o
  dsimp only at hk hat hFl hs hp hf
  subst hk
  have htl := st.t.lt tb st.t.self
  have hX : w.cell? ⟨tb, 0, none⟩ = some (.pointer (some ⟨x, 0, none⟩)) := by rw [cell_of_heap st.t.cells]; rfl
  have hRp : w.cell? ⟨tb, 1, none⟩ = some (.pointer (some ⟨r, 0, none⟩)) := by rw [cell_of_heap st.t.cells]; rfl
  have hbw := (Below.refl w.heap.size w).alloc (Nat.le_refl _) (.cells #[.int .i64 4, .int .i64 on, .int .i64 oa, .bool ov, .slice fao F.length fcap, .string os] 66)
  have hbl := Below.refl (w.heap.size + 1) (w.alloc (.cells #[.int .i64 4, .int .i64 on, .int .i64 oa, .bool ov, .slice fao F.length fcap, .string os] 66))
  have hsz : w.heap.size + 1 ≤ (w.alloc (.cells #[.int .i64 4, .int .i64 on, .int .i64 oa, .bool ov, .slice fao F.length fcap, .string os] 66)).heap.size := by simp
  obtain ⟨hd, hh, hT, _⟩ := sev_true ok F 0 hp.1
  obtain ⟨hd1, hh1, hT1, _⟩ := sev_true ok F 1 hp.2.1
  obtain ⟨hd2, hh2, hT2, _⟩ := sev_true ok F 2 hp.2.2
  have hp0 := hp.1
  have hp1 := hp.2.1
  have hp2 := hp.2.2
  clear hp
  have hn := ite_tab (sevT l F 0) (sevT l F 1) (sevT l F 2)
  have hite := fun wq (hc : I OX wq x C) => post_full (sp.ite hc S.live ok.lists hd hd1 hd2 _ _ _ hT hT1 hT2) hf
  have htell := fun wq (hq : RefIs OR wq r S) => refTell_one (iteT (sevT l F 0) (sevT l F 1) (sevT l F 2)) hq (ok.ref hN)
  rw [tell_full ok hf] at htell
  clear hF hz
  unfold opv
  dsimp only
  go_enter Tryz.func64, Tryz.ntmps64
  go_wp2_with (first
    | (go_at_call 110; refine (hat _ ?_ _ hbw).mono ?_; decide; rintro e wn ⟨rfl, hn⟩; replace hbw := hbw.trans (hn.mono hbw.size); replace hbl := hbl.trans (hn.mono hsz); replace hsz := Nat.le_trans hsz hn.size; clear hn; obtain ⟨b0, b1, b2, b3, b4, b5⟩ := box_cells hbl; have hXn := (hbw.cell (p := ⟨tb, 0, none⟩) htl).trans hX; have hRn := (hbw.cell (p := ⟨tb, 1, none⟩) htl).trans hRp)
    | (go_at_call 22; refine (hite _ (st.below sp hbw).c).mono ?_; rintro e w2 ⟨rfl, hsc⟩; obtain ⟨OX2, st2, ho2, hg2⟩ := (st.below sp hbw).stepC sp hsc; have hR2 : w2.cell? ⟨tb, 1, none⟩ = some (.pointer (some ⟨r, 0, none⟩)) := (by rw [cell_of_heap st2.t.cells]; rfl); skip)
    | (go_at_call 111; refine (htell _ st2.s).mono ?_; rintro e w3 ⟨rfl, hsr⟩)
    | (go_at_call 63; refine (lawAnswer_no _ _ 5 (by decide) _).mono ?_; rintro e w9 ⟨rfl, hq⟩; replace hq := hq.symm; subst hq))
  go_ret
  exact ⟨rfl, tw_same2 sp st ok hbw hsc hsr⟩

set_option maxHeartbeats 4000000 in
set_option maxRecDepth 20000 in
theorem works_ite_room {I : (Nat → Prop) → World → Nat → CopS → Prop} {cF cT : Nat} (sp : CopseSpec I cF cT) {w : World} {tb x r N : Nat} {C : CopS} {S : RefS} {l : List (Nat × Tab)} {av : Value} {OT OX OR : Nat → Prop} (st : TwSt I w tb x r C S l av OT OX OR) (ok : TwOk cF cT N C S l) (hN : N ≤ 3000000)
    (o : OpS) (fv : Value) (hF : FReads w.heap.size w fv (o.f.map zv)) (hFl : o.f.length ≤ 2000000) (hz : ∀ z ∈ o.f, i64ok z) (hs : o.s.size ≤ maxLen) (hk : o.kind = 4) (hp : sevB l o.f 0 = true ∧ sevB l o.f 1 = true ∧ sevB l o.f 2 = true) (hf : ¬ fullC C S.live (iteT (sevT l o.f 0) (sevT l o.f 1) (sevT l o.f 2))) :
    Calls Tryz.prog 64 #[.pointer (some ⟨tb, 0, none⟩), opv o fv] w fun e w' => e = .returned (.bool true) ∧ TwPostX I cF cT w tb (N + 1) (Un OT OX OR) { S with names := S.names, order := S.order, live := withT S.live [iteT (sevT l o.f 0) (sevT l o.f 1) (sevT l o.f 2)] } (toldF (l.map Prod.snd) (iteT (sevT l o.f 0) (sevT l o.f 1) (sevT l o.f 2))) w' := by
  obtain ⟨fao, fcap, rfl⟩ := reads_form hF
  have hat := fun z hz2 wq hb => at_box2 sp st ok hN o fao fcap hF hFl hz z hz2 wq hb
  obtain ⟨kd, on, oa, ov, F, os⟩ := o
  dsimp only at hk hat hFl hs hp hf ⊢
  subst hk
  have htl := st.t.lt tb st.t.self
  have hX : w.cell? ⟨tb, 0, none⟩ = some (.pointer (some ⟨x, 0, none⟩)) := by rw [cell_of_heap st.t.cells]; rfl
  have hRp : w.cell? ⟨tb, 1, none⟩ = some (.pointer (some ⟨r, 0, none⟩)) := by rw [cell_of_heap st.t.cells]; rfl
  have hbw := (Below.refl w.heap.size w).alloc (Nat.le_refl _) (.cells #[.int .i64 4, .int .i64 on, .int .i64 oa, .bool ov, .slice fao F.length fcap, .string os] 66)
  have hbl := Below.refl (w.heap.size + 1) (w.alloc (.cells #[.int .i64 4, .int .i64 on, .int .i64 oa, .bool ov, .slice fao F.length fcap, .string os] 66))
  have hsz : w.heap.size + 1 ≤ (w.alloc (.cells #[.int .i64 4, .int .i64 on, .int .i64 oa, .bool ov, .slice fao F.length fcap, .string os] 66)).heap.size := by simp
  obtain ⟨hd, hh, hT, _⟩ := sev_true ok F 0 hp.1
  obtain ⟨hd1, hh1, hT1, _⟩ := sev_true ok F 1 hp.2.1
  obtain ⟨hd2, hh2, hT2, _⟩ := sev_true ok F 2 hp.2.2
  have hp0 := hp.1
  have hp1 := hp.2.1
  have hp2 := hp.2.2
  clear hp
  have hn := ite_tab (sevT l F 0) (sevT l F 1) (sevT l F 2)
  have hite := fun wq (hc : I OX wq x C) => post_room (sp.ite hc S.live ok.lists hd hd1 hd2 _ _ _ hT hT1 hT2) hf
  have htell := fun wq (hq : RefIs OR wq r S) => refTell_one (iteT (sevT l F 0) (sevT l F 1) (sevT l F 2)) hq (ok.ref hN)
  rw [tell_room ok hf] at htell
  clear hF hz
  unfold opv
  dsimp only
  go_enter Tryz.func64, Tryz.ntmps64
  go_wp2_with (first
    | (go_at_call 110; refine (hat _ ?_ _ hbw).mono ?_; decide; rintro e wn ⟨rfl, hn⟩; replace hbw := hbw.trans (hn.mono hbw.size); replace hbl := hbl.trans (hn.mono hsz); replace hsz := Nat.le_trans hsz hn.size; clear hn; obtain ⟨b0, b1, b2, b3, b4, b5⟩ := box_cells hbl; have hXn := (hbw.cell (p := ⟨tb, 0, none⟩) htl).trans hX; have hRn := (hbw.cell (p := ⟨tb, 1, none⟩) htl).trans hRp)
    | (go_at_call 22; refine (hite _ (st.below sp hbw).c).mono ?_; rintro e w2 ⟨hdn, rfl, hm, hfr, hsc⟩; obtain ⟨OX2, st2, ho2, hg2⟩ := (st.below sp hbw).stepC sp hsc; have hR2 : w2.cell? ⟨tb, 1, none⟩ = some (.pointer (some ⟨r, 0, none⟩)) := (by rw [cell_of_heap st2.t.cells]; rfl); skip)
    | (go_at_call 111; refine (htell _ st2.s).mono ?_; rintro e w3 ⟨rfl, hsr⟩; rw [toldC_eq ok] at hsc; obtain ⟨OX', OR', mid⟩ := mid_of sp st ok hN hbw hm hfr S.names S.order ok.ol ok.o6 ok.on ok.ord hsc hsr)
    | (go_at_call 63; refine (lawAnswer_yes mid.st.t mid.l2 mid.ll _ mid.hm _ mid.alike mid.small).mono ?_; rintro e w9 ⟨rfl, hts⟩))
  go_ret
  exact ⟨rfl, mid.postx sp hts⟩

end Go.Proofs.YtebfmcafmojlaaaGreatDoor

/-
  copselaw.twin: works: Ite refused; Restrict.
-/
namespace Go.Proofs.YtebfmcafmojlaaaGreatDoor
open Go.RowKit
set_option linter.unusedSimpArgs false
set_option linter.unusedVariables false

theorem sev_or {cF cT N : Nat} {C : CopS} {S : RefS} {l : List (Nat × Tab)} (ok : TwOk cF cT N C S l) (F : List Int) (i : Nat) : sevH l F i < 0 ∨ ∃ f, C.T (sevH l F i).toNat = some f := by
  cases h : sevB l F i
  · left; rw [sev_false F i h]; omega
  · obtain ⟨hd, e, hT, _⟩ := sev_true ok F i h
    right; rw [e]; exact ⟨_, hT⟩

theorem sev_lt {l : List (Nat × Tab)} (F : List Int) (i : Nat) (h : sevB l F i = false) : sevH l F i < 0 := by rw [sev_false F i h]; omega

set_option maxHeartbeats 4000000 in
set_option maxRecDepth 20000 in
theorem works_ite_bad0 {I : (Nat → Prop) → World → Nat → CopS → Prop} {cF cT : Nat} (sp : CopseSpec I cF cT) {w : World} {tb x r N : Nat} {C : CopS} {S : RefS} {l : List (Nat × Tab)} {av : Value} {OT OX OR : Nat → Prop} (st : TwSt I w tb x r C S l av OT OX OR) (ok : TwOk cF cT N C S l) (hN : N ≤ 3000000)
    (o : OpS) (fv : Value) (hF : FReads w.heap.size w fv (o.f.map zv)) (hFl : o.f.length ≤ 2000000) (hz : ∀ z ∈ o.f, i64ok z) (hs : o.s.size ≤ maxLen) (hk : o.kind = 4) (hp : sevB l o.f 0 = false) :
    Calls Tryz.prog 64 #[.pointer (some ⟨tb, 0, none⟩), opv o fv] w fun e w' => e = .returned (.bool true) ∧ TwPost I cF cT w tb (N + 1) (Un OT OX OR) w' := by
  obtain ⟨fao, fcap, rfl⟩ := reads_form hF
  have hat := fun z hz2 wq hb => at_box2 sp st ok hN o fao fcap hF hFl hz z hz2 wq hb
  obtain ⟨kd, on, oa, ov, F, os⟩ := o
  dsimp only at hk hat hFl hs hp
  subst hk
  have htl := st.t.lt tb st.t.self
  have hX : w.cell? ⟨tb, 0, none⟩ = some (.pointer (some ⟨x, 0, none⟩)) := by rw [cell_of_heap st.t.cells]; rfl
  have hRp : w.cell? ⟨tb, 1, none⟩ = some (.pointer (some ⟨r, 0, none⟩)) := by rw [cell_of_heap st.t.cells]; rfl
  have hbw := (Below.refl w.heap.size w).alloc (Nat.le_refl _) (.cells #[.int .i64 4, .int .i64 on, .int .i64 oa, .bool ov, .slice fao F.length fcap, .string os] 66)
  have hbl := Below.refl (w.heap.size + 1) (w.alloc (.cells #[.int .i64 4, .int .i64 on, .int .i64 oa, .bool ov, .slice fao F.length fcap, .string os] 66))
  have hsz : w.heap.size + 1 ≤ (w.alloc (.cells #[.int .i64 4, .int .i64 on, .int .i64 oa, .bool ov, .slice fao F.length fcap, .string os] 66)).heap.size := by simp
  have hite := fun wq (hc : I OX wq x C) => sp.ite_no hc (sevH l F 0) (sevH l F 1) (sevH l F 2) (sev_ok ok F 0 (by omega)) (sev_ok ok F 1 (by omega)) (sev_ok ok F 2 (by omega)) (.inl (sev_lt F 0 hp)) (sev_or ok F 0) (sev_or ok F 1) (sev_or ok F 2)
  clear hF hz
  unfold opv
  dsimp only
  go_enter Tryz.func64, Tryz.ntmps64
  go_wp2_with (first
    | (go_at_call 110; refine (hat _ ?_ _ hbw).mono ?_; decide; rintro e wn ⟨rfl, hn⟩; replace hbw := hbw.trans (hn.mono hbw.size); replace hbl := hbl.trans (hn.mono hsz); replace hsz := Nat.le_trans hsz hn.size; clear hn; obtain ⟨b0, b1, b2, b3, b4, b5⟩ := box_cells hbl; have hXn := (hbw.cell (p := ⟨tb, 0, none⟩) htl).trans hX; have hRn := (hbw.cell (p := ⟨tb, 1, none⟩) htl).trans hRp)
    | (go_at_call 22; refine (hite _ (st.below sp hbw).c).mono ?_; rintro e w2 ⟨rfl, hsc⟩)
    | (go_at_call 63; refine (lawAnswer_no _ _ 4 (by decide) _).mono ?_; rintro e w9 ⟨rfl, hq⟩; replace hq := hq.symm; subst hq))
  go_ret
  exact ⟨rfl, tw_same sp st ok hbw hsc (Below.refl _ _)⟩

set_option maxHeartbeats 4000000 in
set_option maxRecDepth 20000 in
theorem works_ite_bad1 {I : (Nat → Prop) → World → Nat → CopS → Prop} {cF cT : Nat} (sp : CopseSpec I cF cT) {w : World} {tb x r N : Nat} {C : CopS} {S : RefS} {l : List (Nat × Tab)} {av : Value} {OT OX OR : Nat → Prop} (st : TwSt I w tb x r C S l av OT OX OR) (ok : TwOk cF cT N C S l) (hN : N ≤ 3000000)
    (o : OpS) (fv : Value) (hF : FReads w.heap.size w fv (o.f.map zv)) (hFl : o.f.length ≤ 2000000) (hz : ∀ z ∈ o.f, i64ok z) (hs : o.s.size ≤ maxLen) (hk : o.kind = 4) (hp : sevB l o.f 0 = true) (hp1 : sevB l o.f 1 = false) :
    Calls Tryz.prog 64 #[.pointer (some ⟨tb, 0, none⟩), opv o fv] w fun e w' => e = .returned (.bool true) ∧ TwPost I cF cT w tb (N + 1) (Un OT OX OR) w' := by
  obtain ⟨fao, fcap, rfl⟩ := reads_form hF
  have hat := fun z hz2 wq hb => at_box2 sp st ok hN o fao fcap hF hFl hz z hz2 wq hb
  obtain ⟨kd, on, oa, ov, F, os⟩ := o
  dsimp only at hk hat hFl hs hp hp1
  subst hk
  have htl := st.t.lt tb st.t.self
  have hX : w.cell? ⟨tb, 0, none⟩ = some (.pointer (some ⟨x, 0, none⟩)) := by rw [cell_of_heap st.t.cells]; rfl
  have hRp : w.cell? ⟨tb, 1, none⟩ = some (.pointer (some ⟨r, 0, none⟩)) := by rw [cell_of_heap st.t.cells]; rfl
  have hbw := (Below.refl w.heap.size w).alloc (Nat.le_refl _) (.cells #[.int .i64 4, .int .i64 on, .int .i64 oa, .bool ov, .slice fao F.length fcap, .string os] 66)
  have hbl := Below.refl (w.heap.size + 1) (w.alloc (.cells #[.int .i64 4, .int .i64 on, .int .i64 oa, .bool ov, .slice fao F.length fcap, .string os] 66))
  have hsz : w.heap.size + 1 ≤ (w.alloc (.cells #[.int .i64 4, .int .i64 on, .int .i64 oa, .bool ov, .slice fao F.length fcap, .string os] 66)).heap.size := by simp
  have hite := fun wq (hc : I OX wq x C) => sp.ite_no hc (sevH l F 0) (sevH l F 1) (sevH l F 2) (sev_ok ok F 0 (by omega)) (sev_ok ok F 1 (by omega)) (sev_ok ok F 2 (by omega)) (.inr (.inl (sev_lt F 1 hp1))) (sev_or ok F 0) (sev_or ok F 1) (sev_or ok F 2)
  clear hF hz
  unfold opv
  dsimp only
  go_enter Tryz.func64, Tryz.ntmps64
  go_wp2_with (first
    | (go_at_call 110; refine (hat _ ?_ _ hbw).mono ?_; decide; rintro e wn ⟨rfl, hn⟩; replace hbw := hbw.trans (hn.mono hbw.size); replace hbl := hbl.trans (hn.mono hsz); replace hsz := Nat.le_trans hsz hn.size; clear hn; obtain ⟨b0, b1, b2, b3, b4, b5⟩ := box_cells hbl; have hXn := (hbw.cell (p := ⟨tb, 0, none⟩) htl).trans hX; have hRn := (hbw.cell (p := ⟨tb, 1, none⟩) htl).trans hRp)
    | (go_at_call 22; refine (hite _ (st.below sp hbw).c).mono ?_; rintro e w2 ⟨rfl, hsc⟩)
    | (go_at_call 63; refine (lawAnswer_no _ _ 4 (by decide) _).mono ?_; rintro e w9 ⟨rfl, hq⟩; replace hq := hq.symm; subst hq))
  go_ret
  exact ⟨rfl, tw_same sp st ok hbw hsc (Below.refl _ _)⟩

set_option maxHeartbeats 4000000 in
set_option maxRecDepth 20000 in
theorem works_ite_bad2 {I : (Nat → Prop) → World → Nat → CopS → Prop} {cF cT : Nat} (sp : CopseSpec I cF cT) {w : World} {tb x r N : Nat} {C : CopS} {S : RefS} {l : List (Nat × Tab)} {av : Value} {OT OX OR : Nat → Prop} (st : TwSt I w tb x r C S l av OT OX OR) (ok : TwOk cF cT N C S l) (hN : N ≤ 3000000)
    (o : OpS) (fv : Value) (hF : FReads w.heap.size w fv (o.f.map zv)) (hFl : o.f.length ≤ 2000000) (hz : ∀ z ∈ o.f, i64ok z) (hs : o.s.size ≤ maxLen) (hk : o.kind = 4) (hp : sevB l o.f 0 = true) (hp1 : sevB l o.f 1 = true) (hp2 : sevB l o.f 2 = false) :
    Calls Tryz.prog 64 #[.pointer (some ⟨tb, 0, none⟩), opv o fv] w fun e w' => e = .returned (.bool true) ∧ TwPost I cF cT w tb (N + 1) (Un OT OX OR) w' := by
  obtain ⟨fao, fcap, rfl⟩ := reads_form hF
  have hat := fun z hz2 wq hb => at_box2 sp st ok hN o fao fcap hF hFl hz z hz2 wq hb
  obtain ⟨kd, on, oa, ov, F, os⟩ := o
  dsimp only at hk hat hFl hs hp hp1 hp2
  subst hk
  have htl := st.t.lt tb st.t.self
  have hX : w.cell? ⟨tb, 0, none⟩ = some (.pointer (some ⟨x, 0, none⟩)) := by rw [cell_of_heap st.t.cells]; rfl
  have hRp : w.cell? ⟨tb, 1, none⟩ = some (.pointer (some ⟨r, 0, none⟩)) := by rw [cell_of_heap st.t.cells]; rfl
  have hbw := (Below.refl w.heap.size w).alloc (Nat.le_refl _) (.cells #[.int .i64 4, .int .i64 on, .int .i64 oa, .bool ov, .slice fao F.length fcap, .string os] 66)
  have hbl := Below.refl (w.heap.size + 1) (w.alloc (.cells #[.int .i64 4, .int .i64 on, .int .i64 oa, .bool ov, .slice fao F.length fcap, .string os] 66))
  have hsz : w.heap.size + 1 ≤ (w.alloc (.cells #[.int .i64 4, .int .i64 on, .int .i64 oa, .bool ov, .slice fao F.length fcap, .string os] 66)).heap.size := by simp
  have hite := fun wq (hc : I OX wq x C) => sp.ite_no hc (sevH l F 0) (sevH l F 1) (sevH l F 2) (sev_ok ok F 0 (by omega)) (sev_ok ok F 1 (by omega)) (sev_ok ok F 2 (by omega)) (.inr (.inr (sev_lt F 2 hp2))) (sev_or ok F 0) (sev_or ok F 1) (sev_or ok F 2)
  clear hF hz
  unfold opv
  dsimp only
  go_enter Tryz.func64, Tryz.ntmps64
  go_wp2_with (first
    | (go_at_call 110; refine (hat _ ?_ _ hbw).mono ?_; decide; rintro e wn ⟨rfl, hn⟩; replace hbw := hbw.trans (hn.mono hbw.size); replace hbl := hbl.trans (hn.mono hsz); replace hsz := Nat.le_trans hsz hn.size; clear hn; obtain ⟨b0, b1, b2, b3, b4, b5⟩ := box_cells hbl; have hXn := (hbw.cell (p := ⟨tb, 0, none⟩) htl).trans hX; have hRn := (hbw.cell (p := ⟨tb, 1, none⟩) htl).trans hRp)
    | (go_at_call 22; refine (hite _ (st.below sp hbw).c).mono ?_; rintro e w2 ⟨rfl, hsc⟩)
    | (go_at_call 63; refine (lawAnswer_no _ _ 4 (by decide) _).mono ?_; rintro e w9 ⟨rfl, hq⟩; replace hq := hq.symm; subst hq))
  go_ret
  exact ⟨rfl, tw_same sp st ok hbw hsc (Below.refl _ _)⟩

theorem box_only {I : (Nat → Prop) → World → Nat → CopS → Prop} {cF cT : Nat} (sp : CopseSpec I cF cT) {w wq w2 : World} {x : Nat} {C : CopS} {OX : Nat → Prop} {a0 a1 a2 a3 a4 a5 : Value} {T : TypeId} (h : I OX w x C) (hb : Below (w.heap.size + 1) (w.alloc (.cells #[a0, a1, a2, a3, a4, a5] T)) wq) (hs : w.heap.size + 1 ≤ wq.heap.size) (ho : Only OX wq w2) :
    w2.cell? ⟨w.heap.size, 0, none⟩ = some a0 ∧ w2.cell? ⟨w.heap.size, 1, none⟩ = some a1 ∧ w2.cell? ⟨w.heap.size, 2, none⟩ = some a2 ∧ w2.cell? ⟨w.heap.size, 3, none⟩ = some a3 ∧ w2.cell? ⟨w.heap.size, 4, none⟩ = some a4 ∧ w2.cell? ⟨w.heap.size, 5, none⟩ = some a5 :=
  cells6 ((ho.block w.heap.size (by omega) (fun e => by have := sp.lt h _ e; omega)).trans ((hb.block w.heap.size (by omega)).trans (heap_alloc_new w _)))

set_option maxHeartbeats 4000000 in
set_option maxRecDepth 20000 in
theorem works_res_bad {I : (Nat → Prop) → World → Nat → CopS → Prop} {cF cT : Nat} (sp : CopseSpec I cF cT) {w : World} {tb x r N : Nat} {C : CopS} {S : RefS} {l : List (Nat × Tab)} {av : Value} {OT OX OR : Nat → Prop} (st : TwSt I w tb x r C S l av OT OX OR) (ok : TwOk cF cT N C S l) (hN : N ≤ 3000000)
    (o : OpS) (fv : Value) (hF : FReads w.heap.size w fv (o.f.map zv)) (hFl : o.f.length ≤ 2000000) (hz : ∀ z ∈ o.f, i64ok z) (hs : o.s.size ≤ maxLen) (hk : o.kind = 5) (hp : sevB l o.f 0 = false) :
    Calls Tryz.prog 64 #[.pointer (some ⟨tb, 0, none⟩), opv o fv] w fun e w' => e = .returned (.bool true) ∧ TwPost I cF cT w tb (N + 1) (Un OT OX OR) w' := by
  obtain ⟨fao, fcap, rfl⟩ := reads_form hF
  have hat := fun z hz2 wq hb => at_box2 sp st ok hN o fao fcap hF hFl hz z hz2 wq hb
  obtain ⟨kd, on, oa, ov, F, os⟩ := o
  dsimp only at hk hat hFl hs hp
  subst hk
  have htl := st.t.lt tb st.t.self
  have hX : w.cell? ⟨tb, 0, none⟩ = some (.pointer (some ⟨x, 0, none⟩)) := by rw [cell_of_heap st.t.cells]; rfl
  have hRp : w.cell? ⟨tb, 1, none⟩ = some (.pointer (some ⟨r, 0, none⟩)) := by rw [cell_of_heap st.t.cells]; rfl
  have hbw := (Below.refl w.heap.size w).alloc (Nat.le_refl _) (.cells #[.int .i64 5, .int .i64 on, .int .i64 oa, .bool ov, .slice fao F.length fcap, .string os] 66)
  have hbl := Below.refl (w.heap.size + 1) (w.alloc (.cells #[.int .i64 5, .int .i64 on, .int .i64 oa, .bool ov, .slice fao F.length fcap, .string os] 66))
  have hsz : w.heap.size + 1 ≤ (w.alloc (.cells #[.int .i64 5, .int .i64 on, .int .i64 oa, .bool ov, .slice fao F.length fcap, .string os] 66)).heap.size := by simp
  have hh := sev_false F 0 hp
  have hres := fun wq (hc : I OX wq x C) => sp.res_no hc (sevH l F 0) os ov (sev_lt F 0 hp) (sev_ok ok F 0 (by omega)) hs
  clear hh
  clear hF hz
  unfold opv
  dsimp only
  go_enter Tryz.func64, Tryz.ntmps64
  go_wp2_with (first
    | (go_at_call 110; refine (hat _ ?_ _ hbw).mono ?_; decide; rintro e wn ⟨rfl, hn⟩; replace hbw := hbw.trans (hn.mono hbw.size); replace hbl := hbl.trans (hn.mono hsz); replace hsz := Nat.le_trans hsz hn.size; clear hn; obtain ⟨b0, b1, b2, b3, b4, b5⟩ := box_cells hbl; have hXn := (hbw.cell (p := ⟨tb, 0, none⟩) htl).trans hX; have hRn := (hbw.cell (p := ⟨tb, 1, none⟩) htl).trans hRp))
  go_region_held (fun w' => w'.cell? ⟨tb, 0, none⟩ = some (.pointer (some ⟨x, 0, none⟩)) ∧ w'.cell? ⟨w.heap.size, 5, none⟩ = some (.string os) ∧ w'.cell? ⟨w.heap.size, 3, none⟩ = some (.bool ov)) (go_keep) (first | (go_at_call 112; refine (hres _ (st.below sp hbw.drew).c).mono ?_; rintro e w2 ⟨rfl, hsc⟩; obtain ⟨OX2, st2, ho2, hg2⟩ := (st.below sp hbw.drew).stepC sp hsc; have hx2 : w2.cell? ⟨tb, 0, none⟩ = some (.pointer (some ⟨x, 0, none⟩)) := (by rw [cell_of_heap st2.t.cells]; rfl); have hr2 : w2.cell? ⟨tb, 1, none⟩ = some (.pointer (some ⟨r, 0, none⟩)) := (by rw [cell_of_heap st2.t.cells]; rfl); obtain ⟨d0, d1, d2, d3, d4, d5⟩ := box_only sp st.c hbl.drew hsz ho2))
  go_wp2_with (first
    | (go_at_call 63; refine (lawAnswer_no _ _ 4 (by decide) _).mono ?_; rintro e w9 ⟨rfl, hq⟩; replace hq := hq.symm; subst hq))
  go_ret
  exact ⟨rfl, tw_same sp st ok hbw.drew hsc (Below.refl _ _)⟩

theorem RefIs.drew {O : Nat → Prop} {w : World} {r : Nat} {S : RefS} (h : RefIs O w r S) : RefIs O w.drew r S := h.below (Below.refl _ _).drew
theorem ref_cell {OR : Nat → Prop} {n : Nat} {w2 w3 : World} {r : Nat} {S : RefS} (hlt : ∀ b, OR b → b < n) (hn : n < w2.heap.size) (hsr : RefStep OR w2.drew r w3 S) (j : Nat) : w3.cell? ⟨n, j, none⟩ = w2.cell? ⟨n, j, none⟩ :=
  World.cell?_of_block (w := w2) (hsr.1.block n hn (fun e => absurd (hlt n e) (Nat.lt_irrefl n)))
theorem RefStep.undrew {O : Nat → Prop} {w w' : World} {r : Nat} {S : RefS} (h : RefStep O w.drew r w' S) : RefStep O w r w' S := h.pre (Below.refl _ _).drew

set_option maxHeartbeats 4000000 in
set_option maxRecDepth 20000 in
theorem works_res_name {I : (Nat → Prop) → World → Nat → CopS → Prop} {cF cT : Nat} (sp : CopseSpec I cF cT) {w : World} {tb x r N : Nat} {C : CopS} {S : RefS} {l : List (Nat × Tab)} {av : Value} {OT OX OR : Nat → Prop} (st : TwSt I w tb x r C S l av OT OX OR) (ok : TwOk cF cT N C S l) (hN : N ≤ 3000000)
    (o : OpS) (fv : Value) (hF : FReads w.heap.size w fv (o.f.map zv)) (hFl : o.f.length ≤ 2000000) (hz : ∀ z ∈ o.f, i64ok z) (hs : o.s.size ≤ maxLen) (hk : o.kind = 5) (hp : sevB l o.f 0 = true) (hf : S.names.findIdx? (fun y => y.toList == o.s.toList) = none) :
    Calls Tryz.prog 64 #[.pointer (some ⟨tb, 0, none⟩), opv o fv] w fun e w' => e = .returned (.bool true) ∧ TwPost I cF cT w tb (N + 1) (Un OT OX OR) w' := by
  obtain ⟨fao, fcap, rfl⟩ := reads_form hF
  have hat := fun z hz2 wq hb => at_box2 sp st ok hN o fao fcap hF hFl hz z hz2 wq hb
  obtain ⟨kd, on, oa, ov, F, os⟩ := o
  dsimp only at hk hat hFl hs hp hf
  subst hk
  have htl := st.t.lt tb st.t.self
  have hX : w.cell? ⟨tb, 0, none⟩ = some (.pointer (some ⟨x, 0, none⟩)) := by rw [cell_of_heap st.t.cells]; rfl
  have hRp : w.cell? ⟨tb, 1, none⟩ = some (.pointer (some ⟨r, 0, none⟩)) := by rw [cell_of_heap st.t.cells]; rfl
  have hbw := (Below.refl w.heap.size w).alloc (Nat.le_refl _) (.cells #[.int .i64 5, .int .i64 on, .int .i64 oa, .bool ov, .slice fao F.length fcap, .string os] 66)
  have hbl := Below.refl (w.heap.size + 1) (w.alloc (.cells #[.int .i64 5, .int .i64 on, .int .i64 oa, .bool ov, .slice fao F.length fcap, .string os] 66))
  have hsz : w.heap.size + 1 ≤ (w.alloc (.cells #[.int .i64 5, .int .i64 on, .int .i64 oa, .bool ov, .slice fao F.length fcap, .string os] 66)).heap.size := by simp
  obtain ⟨hd, hh, hT, _⟩ := sev_true ok F 0 hp
  have hnm : namedI C.names os = -1 := by rw [ok.names]; simp only [namedI, hf]
  have hres := fun wq (hc : I OX wq x C) => sp.res_name hc hd _ os ov hT hs hnm
  have href := fun wq (hq : RefIs OR wq r S) => refRestrict hq (ok.ref hN) (sevT l F 0) os ov
  have hrr : restrictR S (sevT l F 0) os ov = (0, 2, S) := by simp only [restrictR, hf]
  rw [hrr] at href
  clear hf hrr hnm
  clear hF hz
  unfold opv
  dsimp only
  go_enter Tryz.func64, Tryz.ntmps64
  go_wp2_with (first
    | (go_at_call 110; refine (hat _ ?_ _ hbw).mono ?_; decide; rintro e wn ⟨rfl, hn⟩; replace hbw := hbw.trans (hn.mono hbw.size); replace hbl := hbl.trans (hn.mono hsz); replace hsz := Nat.le_trans hsz hn.size; clear hn; obtain ⟨b0, b1, b2, b3, b4, b5⟩ := box_cells hbl; have hXn := (hbw.cell (p := ⟨tb, 0, none⟩) htl).trans hX; have hRn := (hbw.cell (p := ⟨tb, 1, none⟩) htl).trans hRp))
  go_region_held (fun w' => w'.cell? ⟨tb, 0, none⟩ = some (.pointer (some ⟨x, 0, none⟩)) ∧ w'.cell? ⟨w.heap.size, 5, none⟩ = some (.string os) ∧ w'.cell? ⟨w.heap.size, 3, none⟩ = some (.bool ov)) (go_keep) (first | (go_at_call 112; refine (hres _ (st.below sp hbw.drew).c).mono ?_; rintro e w2 ⟨rfl, hsc⟩; obtain ⟨OX2, st2, ho2, hg2⟩ := (st.below sp hbw.drew).stepC sp hsc; have hx2 : w2.cell? ⟨tb, 0, none⟩ = some (.pointer (some ⟨x, 0, none⟩)) := (by rw [cell_of_heap st2.t.cells]; rfl); have hr2 : w2.cell? ⟨tb, 1, none⟩ = some (.pointer (some ⟨r, 0, none⟩)) := (by rw [cell_of_heap st2.t.cells]; rfl); obtain ⟨d0, d1, d2, d3, d4, d5⟩ := box_only sp st.c hbl.drew hsz ho2))
  go_wp2_with (first
    | fail)
  go_region_held (fun w' => w'.cell? ⟨tb, 1, none⟩ = some (.pointer (some ⟨r, 0, none⟩)) ∧ w'.cell? ⟨w.heap.size, 5, none⟩ = some (.string os) ∧ w'.cell? ⟨w.heap.size, 3, none⟩ = some (.bool ov)) (go_keep) (first | (go_at_call 113; refine (href _ st2.s.drew).mono ?_; rintro e w3 ⟨rfl, hsr⟩; obtain ⟨OR3, st3, ho3, hg3⟩ := st2.stepS sp hsr.undrew; have hr3 : w3.cell? ⟨tb, 1, none⟩ = some (.pointer (some ⟨r, 0, none⟩)) := (by rw [cell_of_heap st3.t.cells]; rfl); have g3 := (ref_cell st.s.lt (Nat.lt_of_lt_of_le (Nat.lt_of_succ_le hsz) ho2.size) hsr 3).trans d3; have g5 := (ref_cell st.s.lt (Nat.lt_of_lt_of_le (Nat.lt_of_succ_le hsz) ho2.size) hsr 5).trans d5))
  go_wp2_with (first
    | (go_at_call 63; refine (lawAnswer_no _ _ 2 (by decide) _).mono ?_; rintro e w9 ⟨rfl, hq⟩; replace hq := hq.symm; subst hq))
  go_ret
  exact ⟨rfl, tw_same2 sp st ok hbw.drew hsc hsr.undrew⟩

set_option maxHeartbeats 4000000 in
set_option maxRecDepth 20000 in
theorem works_res_full {I : (Nat → Prop) → World → Nat → CopS → Prop} {cF cT : Nat} (sp : CopseSpec I cF cT) {w : World} {tb x r N : Nat} {C : CopS} {S : RefS} {l : List (Nat × Tab)} {av : Value} {OT OX OR : Nat → Prop} (st : TwSt I w tb x r C S l av OT OX OR) (ok : TwOk cF cT N C S l) (hN : N ≤ 3000000)
    (o : OpS) (fv : Value) (hF : FReads w.heap.size w fv (o.f.map zv)) (hFl : o.f.length ≤ 2000000) (hz : ∀ z ∈ o.f, i64ok z) (hs : o.s.size ≤ maxLen) (hk : o.kind = 5) (hp : sevB l o.f 0 = true) (v : Nat) (hv : S.names.findIdx? (fun y => y.toList == o.s.toList) = some v) (hf : fullC C S.live (given (sevT l o.f 0) v o.v)) :
    Calls Tryz.prog 64 #[.pointer (some ⟨tb, 0, none⟩), opv o fv] w fun e w' => e = .returned (.bool true) ∧ TwPost I cF cT w tb (N + 1) (Un OT OX OR) w' := by
  obtain ⟨fao, fcap, rfl⟩ := reads_form hF
  have hat := fun z hz2 wq hb => at_box2 sp st ok hN o fao fcap hF hFl hz z hz2 wq hb
  obtain ⟨kd, on, oa, ov, F, os⟩ := o
  dsimp only at hk hat hFl hs hp hv hf
  subst hk
  have htl := st.t.lt tb st.t.self
  have hX : w.cell? ⟨tb, 0, none⟩ = some (.pointer (some ⟨x, 0, none⟩)) := by rw [cell_of_heap st.t.cells]; rfl
  have hRp : w.cell? ⟨tb, 1, none⟩ = some (.pointer (some ⟨r, 0, none⟩)) := by rw [cell_of_heap st.t.cells]; rfl
  have hbw := (Below.refl w.heap.size w).alloc (Nat.le_refl _) (.cells #[.int .i64 5, .int .i64 on, .int .i64 oa, .bool ov, .slice fao F.length fcap, .string os] 66)
  have hbl := Below.refl (w.heap.size + 1) (w.alloc (.cells #[.int .i64 5, .int .i64 on, .int .i64 oa, .bool ov, .slice fao F.length fcap, .string os] 66))
  have hsz : w.heap.size + 1 ≤ (w.alloc (.cells #[.int .i64 5, .int .i64 on, .int .i64 oa, .bool ov, .slice fao F.length fcap, .string os] 66)).heap.size := by simp
  obtain ⟨hd, hh, hT, _⟩ := sev_true ok F 0 hp
  have hres := fun wq (hc : I OX wq x C) => post_full (sp.res hc S.live ok.lists hd _ os ov v hT hs (by rw [ok.names]; exact hv)) hf
  have href := fun wq (hq : RefIs OR wq r S) => refRestrict hq (ok.ref hN) (sevT l F 0) os ov
  have hrr : restrictR S (sevT l F 0) os ov = (0, 5, S) := by simp only [restrictR, hv, tell_full ok hf]; rfl
  rw [hrr] at href
  clear hv hrr
  clear hF hz
  unfold opv
  dsimp only
  go_enter Tryz.func64, Tryz.ntmps64
  go_wp2_with (first
    | (go_at_call 110; refine (hat _ ?_ _ hbw).mono ?_; decide; rintro e wn ⟨rfl, hn⟩; replace hbw := hbw.trans (hn.mono hbw.size); replace hbl := hbl.trans (hn.mono hsz); replace hsz := Nat.le_trans hsz hn.size; clear hn; obtain ⟨b0, b1, b2, b3, b4, b5⟩ := box_cells hbl; have hXn := (hbw.cell (p := ⟨tb, 0, none⟩) htl).trans hX; have hRn := (hbw.cell (p := ⟨tb, 1, none⟩) htl).trans hRp))
  go_region_held (fun w' => w'.cell? ⟨tb, 0, none⟩ = some (.pointer (some ⟨x, 0, none⟩)) ∧ w'.cell? ⟨w.heap.size, 5, none⟩ = some (.string os) ∧ w'.cell? ⟨w.heap.size, 3, none⟩ = some (.bool ov)) (go_keep) (first | (go_at_call 112; refine (hres _ (st.below sp hbw.drew).c).mono ?_; rintro e w2 ⟨rfl, hsc⟩; obtain ⟨OX2, st2, ho2, hg2⟩ := (st.below sp hbw.drew).stepC sp hsc; have hx2 : w2.cell? ⟨tb, 0, none⟩ = some (.pointer (some ⟨x, 0, none⟩)) := (by rw [cell_of_heap st2.t.cells]; rfl); have hr2 : w2.cell? ⟨tb, 1, none⟩ = some (.pointer (some ⟨r, 0, none⟩)) := (by rw [cell_of_heap st2.t.cells]; rfl); obtain ⟨d0, d1, d2, d3, d4, d5⟩ := box_only sp st.c hbl.drew hsz ho2))
  go_wp2_with (first
    | fail)
  go_region_held (fun w' => w'.cell? ⟨tb, 1, none⟩ = some (.pointer (some ⟨r, 0, none⟩)) ∧ w'.cell? ⟨w.heap.size, 5, none⟩ = some (.string os) ∧ w'.cell? ⟨w.heap.size, 3, none⟩ = some (.bool ov)) (go_keep) (first | (go_at_call 113; refine (href _ st2.s.drew).mono ?_; rintro e w3 ⟨rfl, hsr⟩; obtain ⟨OR3, st3, ho3, hg3⟩ := st2.stepS sp hsr.undrew; have hr3 : w3.cell? ⟨tb, 1, none⟩ = some (.pointer (some ⟨r, 0, none⟩)) := (by rw [cell_of_heap st3.t.cells]; rfl); have g3 := (ref_cell st.s.lt (Nat.lt_of_lt_of_le (Nat.lt_of_succ_le hsz) ho2.size) hsr 3).trans d3; have g5 := (ref_cell st.s.lt (Nat.lt_of_lt_of_le (Nat.lt_of_succ_le hsz) ho2.size) hsr 5).trans d5))
  go_wp2_with (first
    | (go_at_call 63; refine (lawAnswer_no _ _ 5 (by decide) _).mono ?_; rintro e w9 ⟨rfl, hq⟩; replace hq := hq.symm; subst hq))
  go_ret
  exact ⟨rfl, tw_same2 sp st ok hbw.drew hsc hsr.undrew⟩

set_option maxHeartbeats 4000000 in
set_option maxRecDepth 20000 in
theorem works_res_room {I : (Nat → Prop) → World → Nat → CopS → Prop} {cF cT : Nat} (sp : CopseSpec I cF cT) {w : World} {tb x r N : Nat} {C : CopS} {S : RefS} {l : List (Nat × Tab)} {av : Value} {OT OX OR : Nat → Prop} (st : TwSt I w tb x r C S l av OT OX OR) (ok : TwOk cF cT N C S l) (hN : N ≤ 3000000)
    (o : OpS) (fv : Value) (hF : FReads w.heap.size w fv (o.f.map zv)) (hFl : o.f.length ≤ 2000000) (hz : ∀ z ∈ o.f, i64ok z) (hs : o.s.size ≤ maxLen) (hk : o.kind = 5) (hp : sevB l o.f 0 = true) (v : Nat) (hv : S.names.findIdx? (fun y => y.toList == o.s.toList) = some v) (hf : ¬ fullC C S.live (given (sevT l o.f 0) v o.v)) :
    Calls Tryz.prog 64 #[.pointer (some ⟨tb, 0, none⟩), opv o fv] w fun e w' => e = .returned (.bool true) ∧ TwPost I cF cT w tb (N + 1) (Un OT OX OR) w' := by
  obtain ⟨fao, fcap, rfl⟩ := reads_form hF
  have hat := fun z hz2 wq hb => at_box2 sp st ok hN o fao fcap hF hFl hz z hz2 wq hb
  obtain ⟨kd, on, oa, ov, F, os⟩ := o
  dsimp only at hk hat hFl hs hp hv hf
  subst hk
  have htl := st.t.lt tb st.t.self
  have hX : w.cell? ⟨tb, 0, none⟩ = some (.pointer (some ⟨x, 0, none⟩)) := by rw [cell_of_heap st.t.cells]; rfl
  have hRp : w.cell? ⟨tb, 1, none⟩ = some (.pointer (some ⟨r, 0, none⟩)) := by rw [cell_of_heap st.t.cells]; rfl
  have hbw := (Below.refl w.heap.size w).alloc (Nat.le_refl _) (.cells #[.int .i64 5, .int .i64 on, .int .i64 oa, .bool ov, .slice fao F.length fcap, .string os] 66)
  have hbl := Below.refl (w.heap.size + 1) (w.alloc (.cells #[.int .i64 5, .int .i64 on, .int .i64 oa, .bool ov, .slice fao F.length fcap, .string os] 66))
  have hsz : w.heap.size + 1 ≤ (w.alloc (.cells #[.int .i64 5, .int .i64 on, .int .i64 oa, .bool ov, .slice fao F.length fcap, .string os] 66)).heap.size := by simp
  obtain ⟨hd, hh, hT, _⟩ := sev_true ok F 0 hp
  have hres := fun wq (hc : I OX wq x C) => post_room (sp.res hc S.live ok.lists hd _ os ov v hT hs (by rw [ok.names]; exact hv)) hf
  have href := fun wq (hq : RefIs OR wq r S) => refRestrict hq (ok.ref hN) (sevT l F 0) os ov
  have hrr : restrictR S (sevT l F 0) os ov = ((given (sevT l F 0) v ov), 0, { S with names := S.names, order := S.order, live := withT S.live [(given (sevT l F 0) v ov)] }) := by simp only [restrictR, hv, tell_room ok hf]; rfl
  rw [hrr] at href
  simp only [tabv] at href
  clear hv hrr
  clear hF hz
  unfold opv
  dsimp only
  go_enter Tryz.func64, Tryz.ntmps64
  go_wp2_with (first
    | (go_at_call 110; refine (hat _ ?_ _ hbw).mono ?_; decide; rintro e wn ⟨rfl, hn⟩; replace hbw := hbw.trans (hn.mono hbw.size); replace hbl := hbl.trans (hn.mono hsz); replace hsz := Nat.le_trans hsz hn.size; clear hn; obtain ⟨b0, b1, b2, b3, b4, b5⟩ := box_cells hbl; have hXn := (hbw.cell (p := ⟨tb, 0, none⟩) htl).trans hX; have hRn := (hbw.cell (p := ⟨tb, 1, none⟩) htl).trans hRp))
  go_region_held (fun w' => w'.cell? ⟨tb, 0, none⟩ = some (.pointer (some ⟨x, 0, none⟩)) ∧ w'.cell? ⟨w.heap.size, 5, none⟩ = some (.string os) ∧ w'.cell? ⟨w.heap.size, 3, none⟩ = some (.bool ov)) (go_keep) (first | (go_at_call 112; refine (hres _ (st.below sp hbw.drew).c).mono ?_; rintro e w2 ⟨hd2, rfl, hm, hfr, hsc⟩; obtain ⟨OX2, st2, ho2, hg2⟩ := (st.below sp hbw.drew).stepC sp hsc; have hx2 : w2.cell? ⟨tb, 0, none⟩ = some (.pointer (some ⟨x, 0, none⟩)) := (by rw [cell_of_heap st2.t.cells]; rfl); have hr2 : w2.cell? ⟨tb, 1, none⟩ = some (.pointer (some ⟨r, 0, none⟩)) := (by rw [cell_of_heap st2.t.cells]; rfl); obtain ⟨d0, d1, d2, d3, d4, d5⟩ := box_only sp st.c hbl.drew hsz ho2))
  go_wp2_with (first
    | fail)
  go_region_held (fun w' => w'.cell? ⟨tb, 1, none⟩ = some (.pointer (some ⟨r, 0, none⟩)) ∧ w'.cell? ⟨w.heap.size, 5, none⟩ = some (.string os) ∧ w'.cell? ⟨w.heap.size, 3, none⟩ = some (.bool ov)) (go_keep) (first | (go_at_call 113; refine (href _ st2.s.drew).mono ?_; rintro e w3 ⟨rfl, hsr⟩; obtain ⟨OR3, st3, ho3, hg3⟩ := st2.stepS sp hsr.undrew; have hr3 : w3.cell? ⟨tb, 1, none⟩ = some (.pointer (some ⟨r, 0, none⟩)) := (by rw [cell_of_heap st3.t.cells]; rfl); have g3 := (ref_cell st.s.lt (Nat.lt_of_lt_of_le (Nat.lt_of_succ_le hsz) ho2.size) hsr 3).trans d3; have g5 := (ref_cell st.s.lt (Nat.lt_of_lt_of_le (Nat.lt_of_succ_le hsz) ho2.size) hsr 5).trans d5; have hsc2 := hsc; rw [toldC_eq ok] at hsc2; obtain ⟨OX', OR', mid⟩ := mid_of sp st ok hN hbw.drew hm hfr S.names S.order ok.ol ok.o6 ok.on ok.ord hsc2 hsr.undrew))
  go_wp2_with (first
    | (go_at_call 63; refine (lawAnswer_yes mid.st.t mid.l2 mid.ll _ mid.hm _ mid.alike mid.small).mono ?_; rintro e w9 ⟨rfl, hts⟩))
  go_ret
  exact ⟨rfl, mid.post sp hts⟩

end Go.Proofs.YtebfmcafmojlaaaGreatDoor

/-
  copselaw.World: asks: Eval; orders: Const.
-/
namespace Go.Proofs.YtebfmcafmojlaaaGreatDoor
open Go.RowKit
set_option linter.unusedSimpArgs false
set_option linter.unusedVariables false

set_option maxHeartbeats 4000000 in
set_option maxRecDepth 20000 in
theorem asks_eval_bad {I : (Nat → Prop) → World → Nat → CopS → Prop} {cF cT : Nat} (sp : CopseSpec I cF cT) {w : World} {tb x r N : Nat} {C : CopS} {S : RefS} {l : List (Nat × Tab)} {av : Value} {OT OX OR : Nat → Prop} (st : TwSt I w tb x r C S l av OT OX OR) (ok : TwOk cF cT N C S l) (hN : N ≤ 3000000)
    (o : OpS) (fv : Value) (hF : FReads w.heap.size w fv (o.f.map zv)) (hFl : o.f.length ≤ 2000000) (hz : ∀ z ∈ o.f, i64ok z) (hs : o.s.size ≤ maxLen) (hk : o.kind = 6) (wb : Nat) (ha : i64ok o.a) (hp : sevB l o.f 0 = false) :
    Calls Tryz.prog 65 #[.pointer (some ⟨wb, 0, none⟩), .pointer (some ⟨tb, 0, none⟩), opv o fv] w fun e w' => e = .returned (.bool true) ∧ TwPost I cF cT w tb (N + 1) (Un OT OX OR) w' := by
  obtain ⟨fao, fcap, rfl⟩ := reads_form hF
  have hat := fun z hz2 wq hb => at_box2 sp st ok hN o fao fcap hF hFl hz z hz2 wq hb
  obtain ⟨kd, on, oa, ov, F, os⟩ := o
  dsimp only at hk hat hFl hs hp ha
  subst hk
  have htl := st.t.lt tb st.t.self
  have hX : w.cell? ⟨tb, 0, none⟩ = some (.pointer (some ⟨x, 0, none⟩)) := by rw [cell_of_heap st.t.cells]; rfl
  have hRp : w.cell? ⟨tb, 1, none⟩ = some (.pointer (some ⟨r, 0, none⟩)) := by rw [cell_of_heap st.t.cells]; rfl
  have hbw := (Below.refl w.heap.size w).alloc (Nat.le_refl _) (.cells #[.int .i64 6, .int .i64 on, .int .i64 oa, .bool ov, .slice fao F.length fcap, .string os] 66)
  have hbl := Below.refl (w.heap.size + 1) (w.alloc (.cells #[.int .i64 6, .int .i64 on, .int .i64 oa, .bool ov, .slice fao F.length fcap, .string os] 66))
  have hsz : w.heap.size + 1 ≤ (w.alloc (.cells #[.int .i64 6, .int .i64 on, .int .i64 oa, .bool ov, .slice fao F.length fcap, .string os] 66)).heap.size := by simp
  have heval := fun wq (hc : I OX wq x C) => sp.eval_no hc (sevH l F 0) oa (sev_lt F 0 hp) (sev_ok ok F 0 (by omega)) ha
  clear hF hz
  unfold opv
  dsimp only
  go_enter Tryz.func65, Tryz.ntmps65
  go_wp2_with (first
    | (go_at_call 110; refine (hat _ ?_ _ hbw).mono ?_; decide; rintro e wn ⟨rfl, hn⟩; replace hbw := hbw.trans (hn.mono hbw.size); replace hbl := hbl.trans (hn.mono hsz); replace hsz := Nat.le_trans hsz hn.size; clear hn; obtain ⟨b0, b1, b2, b3, b4, b5⟩ := box_cells hbl; have hXn := (hbw.cell (p := ⟨tb, 0, none⟩) htl).trans hX; have hRn := (hbw.cell (p := ⟨tb, 1, none⟩) htl).trans hRp))
  go_region_held (fun w' => w'.cell? ⟨tb, 0, none⟩ = some (.pointer (some ⟨x, 0, none⟩)) ∧ w'.cell? ⟨w.heap.size, 2, none⟩ = some (.int .i64 oa)) (go_keep) (first | (go_at_call 93; refine (heval _ (st.below sp hbw.drew).c).mono ?_; rintro e w2 ⟨rfl, hsc⟩; obtain ⟨OX2, st2, ho2, hg2⟩ := (st.below sp hbw.drew).stepC sp hsc; have hx2 : w2.cell? ⟨tb, 0, none⟩ = some (.pointer (some ⟨x, 0, none⟩)) := (by rw [cell_of_heap st2.t.cells]; rfl); have hr2 : w2.cell? ⟨tb, 1, none⟩ = some (.pointer (some ⟨r, 0, none⟩)) := (by rw [cell_of_heap st2.t.cells]; rfl); obtain ⟨d0, d1, d2, d3, d4, d5⟩ := box_only sp st.c hbl.drew hsz ho2))
  go_wp2_with (first
    | (go_at_call 103; refine (lawNum _ _).mono ?_; rintro e w9 ⟨rfl, hq⟩; replace hq := hq.symm; subst hq))
  go_ret
  exact ⟨rfl, tw_same sp st ok hbw.drew hsc (Below.refl _ _)⟩

set_option maxHeartbeats 4000000 in
set_option maxRecDepth 20000 in
theorem asks_eval {I : (Nat → Prop) → World → Nat → CopS → Prop} {cF cT : Nat} (sp : CopseSpec I cF cT) {w : World} {tb x r N : Nat} {C : CopS} {S : RefS} {l : List (Nat × Tab)} {av : Value} {OT OX OR : Nat → Prop} (st : TwSt I w tb x r C S l av OT OX OR) (ok : TwOk cF cT N C S l) (hN : N ≤ 3000000)
    (o : OpS) (fv : Value) (hF : FReads w.heap.size w fv (o.f.map zv)) (hFl : o.f.length ≤ 2000000) (hz : ∀ z ∈ o.f, i64ok z) (hs : o.s.size ≤ maxLen) (hk : o.kind = 6) (wb : Nat) (ha : i64ok o.a) (hp : sevB l o.f 0 = true) :
    Calls Tryz.prog 65 #[.pointer (some ⟨wb, 0, none⟩), .pointer (some ⟨tb, 0, none⟩), opv o fv] w fun e w' => e = .returned (.bool true) ∧ TwPost I cF cT w tb (N + 1) (Un OT OX OR) w' := by
  obtain ⟨fao, fcap, rfl⟩ := reads_form hF
  have hat := fun z hz2 wq hb => at_box2 sp st ok hN o fao fcap hF hFl hz z hz2 wq hb
  obtain ⟨kd, on, oa, ov, F, os⟩ := o
  dsimp only at hk hat hFl hs hp ha
  subst hk
  have htl := st.t.lt tb st.t.self
  have hX : w.cell? ⟨tb, 0, none⟩ = some (.pointer (some ⟨x, 0, none⟩)) := by rw [cell_of_heap st.t.cells]; rfl
  have hRp : w.cell? ⟨tb, 1, none⟩ = some (.pointer (some ⟨r, 0, none⟩)) := by rw [cell_of_heap st.t.cells]; rfl
  have hbw := (Below.refl w.heap.size w).alloc (Nat.le_refl _) (.cells #[.int .i64 6, .int .i64 on, .int .i64 oa, .bool ov, .slice fao F.length fcap, .string os] 66)
  have hbl := Below.refl (w.heap.size + 1) (w.alloc (.cells #[.int .i64 6, .int .i64 on, .int .i64 oa, .bool ov, .slice fao F.length fcap, .string os] 66))
  have hsz : w.heap.size + 1 ≤ (w.alloc (.cells #[.int .i64 6, .int .i64 on, .int .i64 oa, .bool ov, .slice fao F.length fcap, .string os] 66)).heap.size := by simp
  obtain ⟨hd, hh, hT, _⟩ := sev_true ok F 0 hp
  have heval := fun wq (hc : I OX wq x C) => sp.eval hc hd _ oa hT ha
  rw [ok.names] at heval
  have href := fun wq (hq : RefIs OR wq r S) => refEval hq (ok.ref hN) (sevT l F 0) oa
  generalize (evalR S.names.length (sevT l F 0) oa).1 = vb at heval href
  generalize (evalR S.names.length (sevT l F 0) oa).2 = ve at heval href
  clear hF hz
  unfold opv
  dsimp only
  go_enter Tryz.func65, Tryz.ntmps65
  go_wp2_with (first
    | (go_at_call 110; refine (hat _ ?_ _ hbw).mono ?_; decide; rintro e wn ⟨rfl, hn⟩; replace hbw := hbw.trans (hn.mono hbw.size); replace hbl := hbl.trans (hn.mono hsz); replace hsz := Nat.le_trans hsz hn.size; clear hn; obtain ⟨b0, b1, b2, b3, b4, b5⟩ := box_cells hbl; have hXn := (hbw.cell (p := ⟨tb, 0, none⟩) htl).trans hX; have hRn := (hbw.cell (p := ⟨tb, 1, none⟩) htl).trans hRp))
  go_region_held (fun w' => w'.cell? ⟨tb, 0, none⟩ = some (.pointer (some ⟨x, 0, none⟩)) ∧ w'.cell? ⟨w.heap.size, 2, none⟩ = some (.int .i64 oa)) (go_keep) (first | (go_at_call 93; refine (heval _ (st.below sp hbw.drew).c).mono ?_; rintro e w2 ⟨rfl, hsc⟩; obtain ⟨OX2, st2, ho2, hg2⟩ := (st.below sp hbw.drew).stepC sp hsc; have hx2 : w2.cell? ⟨tb, 0, none⟩ = some (.pointer (some ⟨x, 0, none⟩)) := (by rw [cell_of_heap st2.t.cells]; rfl); have hr2 : w2.cell? ⟨tb, 1, none⟩ = some (.pointer (some ⟨r, 0, none⟩)) := (by rw [cell_of_heap st2.t.cells]; rfl); obtain ⟨d0, d1, d2, d3, d4, d5⟩ := box_only sp st.c hbl.drew hsz ho2))
  go_wp2_with (first
    | (go_at_call 103; refine (lawNum _ _).mono ?_; rintro e w9 ⟨rfl, hq⟩; replace hq := hq.symm; subst hq))
  go_region_held (fun w' => w'.cell? ⟨tb, 1, none⟩ = some (.pointer (some ⟨r, 0, none⟩)) ∧ w'.cell? ⟨w.heap.size, 2, none⟩ = some (.int .i64 oa)) (go_keep) (first | (go_at_call 114; refine (href _ st2.s.drew).mono ?_; rintro e w3 ⟨rfl, hq⟩; replace hq := hq.symm; subst hq))
  cases vb
  all_goals
    go_wp2_with (first
      | (go_at_call 103; refine (lawNum _ _).mono ?_; rintro e w9 ⟨rfl, hq⟩; replace hq := hq.symm; subst hq))
    go_ret
    exact ⟨rfl, tw_same sp st ok hbw.drew hsc (Below.refl _ _).drew⟩

end Go.Proofs.YtebfmcafmojlaaaGreatDoor

/-
  copselaw.World: asks: Support.
-/
namespace Go.Proofs.YtebfmcafmojlaaaGreatDoor
open Go.RowKit
set_option linter.unusedSimpArgs false
set_option linter.unusedVariables false

/-- Behind a question: the World and the twin, in blocks of their own. -/
def AskPost (I : (Nat → Prop) → World → Nat → CopS → Prop) (cF cT : Nat) (w : World) (tb N : Nat) (O : Nat → Prop) (wb : Nat) (L : LawS) (OL K : Nat → Prop) (w' : World) : Prop :=
  ∃ OL' K' L' O', LawIs OL' K' w' wb L' ∧ TwIs I cF cT O' w' tb N ∧ Only (fun b => OL b ∨ O b) w w' ∧ L'.tbs = L.tbs ∧ L'.texts.length ≤ L.texts.length + 4 ∧ L'.ints.length ≤ L.ints.length + 4 ∧ L'.n ≤ L.n + 1 ∧ Grows w OL OL' ∧ Grows w O O' ∧ (∀ b, K' b → K b ∨ w.heap.size ≤ b) ∧ (∀ b, O' b → ¬ OL' b ∧ ¬ K' b)

def AskPostX (I : (Nat → Prop) → World → Nat → CopS → Prop) (cF cT : Nat) (w : World) (tb N : Nat) (O : Nat → Prop) (wb : Nat) (L : LawS) (OL K : Nat → Prop) (S : RefS) (fs : List Tab) (w' : World) : Prop :=
  ∃ OL' K' L' O', LawIs OL' K' w' wb L' ∧ TwIsX I cF cT O' w' tb N S fs ∧ Only (fun b => OL b ∨ O b) w w' ∧ L'.tbs = L.tbs ∧ L'.texts.length ≤ L.texts.length + 4 ∧ L'.ints.length ≤ L.ints.length + 4 ∧ L'.n ≤ L.n + 1 ∧ Grows w OL OL' ∧ Grows w O O' ∧ (∀ b, K' b → K b ∨ w.heap.size ≤ b) ∧ (∀ b, O' b → ¬ OL' b ∧ ¬ K' b)
theorem AskPostX.post {I : (Nat → Prop) → World → Nat → CopS → Prop} {cF cT : Nat} {w w' : World} {tb N : Nat} {O : Nat → Prop} {wb : Nat} {L : LawS} {OL K : Nat → Prop} {S : RefS} {fs : List Tab} (h : AskPostX I cF cT w tb N O wb L OL K S fs w') : AskPost I cF cT w tb N O wb L OL K w' := by
  obtain ⟨OL', K', L', O', h1, h2, h3⟩ := h
  exact ⟨OL', K', L', O', h1, h2.is, h3⟩

theorem LawIs.keep {O K : Nat → Prop} {w w' : World} {wb : Nat} {L : LawS} (h : LawIs O K w wb L) (hs : w.heap.size ≤ w'.heap.size) (hb : ∀ k, O k ∨ K k → w'.heap[k]? = w.heap[k]?) : LawIs O K w' wb L := by
  obtain ⟨⟨av, tv, mv, iv, nv, h1⟩, h2, h3⟩ := h
  exact ⟨⟨av, tv, mv, iv, nv, h1.keep hs (fun k hk => hb k (.inl hk))⟩, h2.keep hs (fun k hk => hb k (.inr hk)), h3⟩

theorem LawIs.lt {O K : Nat → Prop} {w : World} {wb : Nat} {L : LawS} (h : LawIs O K w wb L) : ∀ b, O b ∨ K b → b < w.heap.size := by
  obtain ⟨⟨av, tv, mv, iv, nv, h1⟩, h2, h3⟩ := h
  rintro b (hb | hb)
  · exact h1.lt b hb
  · exact h2.lt b hb

/-- A step of a twin leaves the World as it was. -/
theorem ask_of_tw {I : (Nat → Prop) → World → Nat → CopS → Prop} {cF cT : Nat} {w w' : World} {tb N : Nat} {O : Nat → Prop} {wb : Nat} {L : LawS} {OL K : Nat → Prop} (h : TwPost I cF cT w tb N O w') (hl : LawIs OL K w wb L) (hd : ∀ b, O b → ¬ OL b ∧ ¬ K b) : AskPost I cF cT w tb N O wb L OL K w' := by
  obtain ⟨ho, O', ht, hg⟩ := h
  refine ⟨OL, K, L, O', hl.keep ho.size (fun k hk => ho.block k (hl.lt k hk) (fun e => hk.elim (hd k e).1 (hd k e).2)), ht, ho.mono (fun b hb => .inr hb), rfl, by omega, by omega, by omega, Grows.refl _ _, hg, fun b hb => .inl hb, ?_⟩
  intro b hb
  rcases hg b hb with e | e
  · exact hd b e
  · exact ⟨fun e2 => by have := hl.lt b (.inl e2); omega, fun e2 => by have := hl.lt b (.inr e2); omega⟩

/-- Behind a list that came out of the program, and was kept by its owner. -/
theorem sup_post {I : (Nat → Prop) → World → Nat → CopS → Prop} {cF cT : Nat} (sp : CopseSpec I cF cT) {w w1 w2 w4 w5 : World} {tb x r N : Nat} {C : CopS} {S : RefS} {l : List (Nat × Tab)} {av : Value} {OT OX OR : Nat → Prop} (st : TwSt I w tb x r C S l av OT OX OR) (ok : TwOk cF cT N C S l)
    {wb : Nat} {L : LawS} {OL K : Nat → Prop} (hl : LawIs OL K w wb L) (hd : ∀ b, Un OT OX OR b → ¬ OL b ∧ ¬ K b) (hb : Below w.heap.size w w1) (ho : Only OX w1 w2) {OX' : Nat → Prop} (hc : I OX' w2 x C) (hg : Grows w1 OX OX')
    {v : Value} (hv : ∀ k, v.ownBlock = some k → w.heap.size ≤ k ∧ k < w2.heap.size ∧ ¬ OX' k) (hb4 : Below w2.heap.size w2 w4) {nt ni : Nat} (hnt : nt ≤ 4) (hni : ni ≤ 4) (hk : KeepLPost OL K w4 wb L v w5 nt ni) :
    AskPostX I cF cT w tb (N + 1) (Un OT OX OR) wb L OL K S (l.map Prod.snd) w5 ∧ TwSt I w5 tb x r C S l av OT OX' OR := by
  obtain ⟨OL', K', L', hl', e1, e2, e3, e4, hoL, hgL, hK'⟩ := hk
  have hs1 := hb.size
  have hs2 := ho.size
  have hs4 := hb4.size
  obtain ⟨OX2, st2, _, _⟩ := (st.below sp hb).stepC sp ⟨ho, OX', hc, hg⟩
  have hst2 : TwSt I w2 tb x r C S l av OT OX' OR := by
    refine ⟨st2.t, hc, st2.s, ?_, st.d2, ?_⟩
    · intro b hb' hx
      rcases hg b hx with e | e
      · exact st.d1 b hb' e
      · have := st.t.lt b hb'; omega
    · intro b hx hb'
      rcases hg b hx with e | e
      · exact st.d3 b e hb'
      · have := st.s.lt b hb'; omega
  have st4 := hst2.below sp hb4
  have hsame : ∀ b, Un OT OX' OR b → b < w4.heap.size ∧ ¬ OL b ∧ ¬ K b ∧ v.ownBlock ≠ some b := by
    intro b hb'
    have hlt : b < w4.heap.size := by
      rcases hb' with e | e | e
      · exact st4.t.lt b e
      · exact sp.lt st4.c b e
      · exact st4.s.lt b e
    refine ⟨hlt, ?_, ?_, ?_⟩
    · intro eL
      have := hl.lt b (.inl eL)
      rcases hb' with e | e | e
      · exact (hd b (.inl e)).1 eL
      · rcases hg b e with e | e
        · exact (hd b (.inr (.inl e))).1 eL
        · omega
      · exact (hd b (.inr (.inr e))).1 eL
    · intro eL
      have := hl.lt b (.inr eL)
      rcases hb' with e | e | e
      · exact (hd b (.inl e)).2 eL
      · rcases hg b e with e | e
        · exact (hd b (.inr (.inl e))).2 eL
        · omega
      · exact (hd b (.inr (.inr e))).2 eL
    · intro ev
      have h3 := hv b ev
      rcases hb' with e | e | e
      · have := st.t.lt b e; omega
      · exact h3.2.2 e
      · have := st.s.lt b e; omega
  have hkeep : ∀ b, Un OT OX' OR b → w5.heap[b]? = w4.heap[b]? := fun b hb' => hoL.block b (hsame b hb').1 (fun e => e.elim (hsame b hb').2.1 (hsame b hb').2.2.2)
  have st5 : TwSt I w5 tb x r C S l av OT OX' OR := ⟨st4.t.keep hoL.size (fun k hk => hkeep k (.inl hk)), sp.keep st4.c hoL.size (fun k hk => hkeep k (.inr (.inl hk))), st4.s.keep hoL.size (fun k hk => hkeep k (.inr (.inr hk))), hst2.d1, hst2.d2, hst2.d3⟩
  refine ⟨⟨OL', K', L', Un OT OX' OR, hl', ⟨x, r, C, l, av, OT, OX', OR, st5, ok.mono (Nat.le_succ N), fun b => Iff.rfl, rfl⟩, ?_, e1, by omega, by omega, by omega, ?_, ?_, ?_, ?_⟩, st5⟩
  · have o1 : Only (fun b => OL b ∨ Un OT OX OR b) w w2 := (only_of_below hb _).trans (ho.mono (O' := fun b => OL b ∨ Un OT OX OR b) (fun b hb => .inr (.inr (.inl hb)))) (Grows.refl _ _)
    refine (o1.then_below hb4).trans hoL ?_
    intro b hb'
    rcases hb' with e | e
    · exact .inl (.inl e)
    · have := hv b e; exact .inr (by omega)
  · intro b hb'
    rcases hgL b hb' with e | e
    · exact .inl e
    · exact .inr (by omega)
  · intro b hb'
    rcases hb' with e | e | e
    · exact .inl (.inl e)
    · rcases hg b e with e | e
      · exact .inl (.inr (.inl e))
      · exact .inr (by omega)
    · exact .inl (.inr (.inr e))
  · intro b hb'
    rcases hK' b hb' with e | e | e
    · exact .inl e
    · have := hv b e; exact .inr (by omega)
    · exact .inr (by omega)
  · intro b hb'
    have h4 := hsame b hb'
    refine ⟨?_, ?_⟩
    · intro e
      rcases hgL b e with e | e
      · exact h4.2.1 e
      · omega
    · intro e
      rcases hK' b e with e | e | e
      · exact h4.2.2.1 e
      · exact h4.2.2.2 e
      · omega

theorem TwIs.below {I : (Nat → Prop) → World → Nat → CopS → Prop} {cF cT : Nat} (sp : CopseSpec I cF cT) {O : Nat → Prop} {w w' : World} {tb N : Nat} (h : TwIs I cF cT O w tb N) (hb : Below w.heap.size w w') : TwIs I cF cT O w' tb N := by
  obtain ⟨x, r, C, S, l, av, OT, OX, OR, hs, ok, ho⟩ := h
  exact ⟨x, r, C, S, l, av, OT, OX, OR, hs.below sp hb, ok, ho⟩

theorem AskPost.below {I : (Nat → Prop) → World → Nat → CopS → Prop} {cF cT : Nat} (sp : CopseSpec I cF cT) {w w' w'' : World} {tb N : Nat} {O : Nat → Prop} {wb : Nat} {L : LawS} {OL K : Nat → Prop} (h : AskPost I cF cT w tb N O wb L OL K w') (hb : Below w'.heap.size w' w'') : AskPost I cF cT w tb N O wb L OL K w'' := by
  obtain ⟨OL', K', L', O', h1, h2, h3, r⟩ := h
  exact ⟨OL', K', L', O', h1.keep hb.size (fun k hk => hb.block k (h1.lt k hk)), h2.below sp hb, h3.then_below hb, r⟩

theorem AskPostX.below {I : (Nat → Prop) → World → Nat → CopS → Prop} {cF cT : Nat} (sp : CopseSpec I cF cT) {w w' w'' : World} {tb N : Nat} {O : Nat → Prop} {wb : Nat} {L : LawS} {OL K : Nat → Prop} {S : RefS} {fs : List Tab} (h : AskPostX I cF cT w tb N O wb L OL K S fs w') (hb : Below w'.heap.size w' w'') : AskPostX I cF cT w tb N O wb L OL K S fs w'' := by
  obtain ⟨OL', K', L', O', h1, h2, h3, r⟩ := h
  obtain ⟨x, rr, C, l, av, OT, OX, OR, hs, ok, ho, hf⟩ := h2
  exact ⟨OL', K', L', O', h1.keep hb.size (fun k hk => hb.block k (h1.lt k hk)), ⟨x, rr, C, l, av, OT, OX, OR, hs.below sp hb, ok, ho, hf⟩, h3.then_below hb, r⟩

end Go.Proofs.YtebfmcafmojlaaaGreatDoor

