/-
  copselaw.World: known: the document's example, exactly.
-/
import Derived.Test.YtebfmcafmojlaaaGreatDoorT39
namespace Go.Proofs.YtebfmcafmojlaaaGreatDoor
open Go.RowKit
set_option linter.unusedSimpArgs false
set_option linter.unusedVariables false

/-- One twin alone, told exactly. -/
structure OneIs (I : (Nat → Prop) → World → Nat → CopS → Prop) (cF cT : Nat) (G : Nat → Prop) (w : World) (wb : Nat) (L : LawS) (OL K O : Nat → Prop) (tb N M : Nat) (S : RefS) (fs : List Tab) : Prop where
  law : LawIs OL K w wb L
  tbs : L.tbs = [tb]
  tw : TwIsX I cF cT O w tb N S fs
  d : ∀ b, O b → ¬ OL b ∧ ¬ K b
  bL : ∀ b, OL b ∨ K b → G b
  bT : ∀ b, O b → G b
  nw : ∀ b, w.heap.size ≤ b → G b
  mt : L.texts.length ≤ 4 * M
  mi : L.ints.length ≤ 4 * M
  mn : L.n ≤ M

theorem TwIsX.mono {I : (Nat → Prop) → World → Nat → CopS → Prop} {cF cT : Nat} {O : Nat → Prop} {w : World} {tb N N' : Nat} {S : RefS} {fs : List Tab} (h : TwIsX I cF cT O w tb N S fs) (hN : N ≤ N') : TwIsX I cF cT O w tb N' S fs := by
  obtain ⟨x, r, C, l, av, OT, OX, OR, h1, h2, h3, h4⟩ := h
  exact ⟨x, r, C, l, av, OT, OX, OR, h1, h2.mono hN, h3, h4⟩

theorem TwIsX.below {I : (Nat → Prop) → World → Nat → CopS → Prop} {cF cT : Nat} (sp : CopseSpec I cF cT) {O : Nat → Prop} {w w' : World} {tb N : Nat} {S : RefS} {fs : List Tab} (h : TwIsX I cF cT O w tb N S fs) (hb : Below w.heap.size w w') : TwIsX I cF cT O w' tb N S fs := by
  obtain ⟨x, r, C, l, av, OT, OX, OR, h1, h2, h3, h4⟩ := h
  exact ⟨x, r, C, l, av, OT, OX, OR, h1.below sp hb, h2, h3, h4⟩

theorem OneIs.mono {I : (Nat → Prop) → World → Nat → CopS → Prop} {cF cT : Nat} {G : Nat → Prop} {w : World} {wb : Nat} {L : LawS} {OL K O : Nat → Prop} {tb N M N' M' : Nat} {S : RefS} {fs : List Tab} (h : OneIs I cF cT G w wb L OL K O tb N M S fs) (hN : N ≤ N') (hM : M ≤ M') : OneIs I cF cT G w wb L OL K O tb N' M' S fs :=
  ⟨h.law, h.tbs, h.tw.mono hN, h.d, h.bL, h.bT, h.nw, Nat.le_trans h.mt (by omega), Nat.le_trans h.mi (by omega), Nat.le_trans h.mn hM⟩

theorem OneIs.below {I : (Nat → Prop) → World → Nat → CopS → Prop} {cF cT : Nat} (sp : CopseSpec I cF cT) {G : Nat → Prop} {w w' : World} {wb : Nat} {L : LawS} {OL K O : Nat → Prop} {tb N M : Nat} {S : RefS} {fs : List Tab} (h : OneIs I cF cT G w wb L OL K O tb N M S fs) (hb : Below w.heap.size w w') : OneIs I cF cT G w' wb L OL K O tb N M S fs :=
  ⟨h.law.keep hb.size (fun k hk => hb.block k (h.law.lt k hk)), h.tbs, h.tw.below sp hb, h.d, h.bL, h.bT, fun b hb2 => h.nw b (Nat.le_trans hb.size hb2), h.mt, h.mi, h.mn⟩

theorem OneIs.all {I : (Nat → Prop) → World → Nat → CopS → Prop} {cF cT : Nat} {G : Nat → Prop} {w : World} {wb : Nat} {L : LawS} {OL K O : Nat → Prop} {tb N M : Nat} {S : RefS} {fs : List Tab} (h : OneIs I cF cT G w wb L OL K O tb N M S fs) : AllIs I cF cT G w wb L OL K (fun _ => O) (fun _ => N) M := by
  have hl : L.tbs.length = 1 := by rw [h.tbs]; rfl
  refine ⟨h.law, ?_, fun j hj => h.d, ?_, h.bL, fun j hj => h.bT, h.nw, h.mt, h.mi, h.mn⟩
  · intro j hj
    have : j = 0 := by omega
    subst this
    rw [h.tbs]
    exact h.tw.is
  · intro i j hi hj hij
    omega

theorem OneIs.step {I : (Nat → Prop) → World → Nat → CopS → Prop} {cF cT : Nat} {G : Nat → Prop} {w w' : World} {wb : Nat} {L : LawS} {OL K O : Nat → Prop} {tb N M n : Nat} {S S' : RefS} {fs fs' : List Tab} (h : OneIs I cF cT G w wb L OL K O tb N M S fs) (hp : TwPostX I cF cT w tb n O S' fs' w') :
    ∃ O', OneIs I cF cT G w' wb L OL K O' tb n M S' fs' ∧ Only G w w' := by
  obtain ⟨ho, O', ht, gO⟩ := hp
  refine ⟨O', ⟨h.law.keep ho.size (fun b hb => ho.block b (h.law.lt b hb) (fun e => hb.elim (h.d b e).1 (h.d b e).2)), h.tbs, ht, ?_, h.bL, ?_, fun b hb2 => h.nw b (Nat.le_trans ho.size hb2), h.mt, h.mi, h.mn⟩, ho.mono h.bT⟩
  · intro b hb
    rcases gO b hb with e | e
    · exact h.d b e
    · exact ⟨fun e2 => by have := h.law.lt b (.inl e2); omega, fun e2 => by have := h.law.lt b (.inr e2); omega⟩
  · intro b hb
    rcases gO b hb with e | e
    · exact h.bT b e
    · exact h.nw b e

theorem OneIs.ask {I : (Nat → Prop) → World → Nat → CopS → Prop} {cF cT : Nat} {G : Nat → Prop} {w w' : World} {wb : Nat} {L : LawS} {OL K O : Nat → Prop} {tb N M n : Nat} {S S' : RefS} {fs fs' : List Tab} (h : OneIs I cF cT G w wb L OL K O tb N M S fs) (hp : AskPostX I cF cT w tb n O wb L OL K S' fs' w') :
    ∃ L' OL' K' O', OneIs I cF cT G w' wb L' OL' K' O' tb n (M + 1) S' fs' ∧ Only G w w' := by
  obtain ⟨OL', K', L', O', hl, ht, ho, e1, e2, e3, e4, gL, gO, gK, hd⟩ := hp
  have hmt := h.mt
  have hmi := h.mi
  have hmn := h.mn
  refine ⟨L', OL', K', O', ⟨hl, by rw [e1]; exact h.tbs, ht, hd, ?_, ?_, fun b hb2 => h.nw b (Nat.le_trans ho.size hb2), by omega, by omega, by omega⟩, ho.mono ?_⟩
  · rintro b (e | e)
    · rcases gL b e with e3 | e3
      · exact h.bL b (.inl e3)
      · exact h.nw b e3
    · rcases gK b e with e3 | e3
      · exact h.bL b (.inr e3)
      · exact h.nw b e3
  · intro b hb
    rcases gO b hb with e | e
    · exact h.bT b e
    · exact h.nw b e
  · rintro b (e | e)
    · exact h.bL b (.inl e)
    · exact h.bT b e

theorem one_begun {I : (Nat → Prop) → World → Nat → CopS → Prop} {cF cT : Nat} {G : Nat → Prop} {w w' : World} {wb : Nat} {L : LawS} {OL K : Nat → Prop} {Os : Nat → Nat → Prop} {Ns : Nat → Nat} {M : Nat} (h : AllIs I cF cT G w wb L OL K Os Ns M) (h0 : L.tbs = []) {cap : Int} (hc : 1 ≤ cap ∧ cap ≤ 300) (hp : BeginPost I cF cT w wb L OL K cap w') :
    ∃ L' OL' O tb, OneIs I cF cT G w' wb L' OL' K O tb 0 M ⟨cap, [], [], []⟩ [0, onesT] ∧ Only G w w' := by
  rcases hp with ⟨hn, _⟩ | ⟨tb, OL', O', hl, ht, ho, gL, hO, hd⟩
  · exact absurd hc hn
  · refine ⟨_, OL', O', tb, ⟨hl, by show L.tbs ++ [tb] = [tb]; rw [h0]; rfl, ht, hd, ?_, fun b hb => h.nw b (hO b hb), fun b hb2 => h.nw b (Nat.le_trans ho.size hb2), h.mt, h.mi, h.mn⟩, ho.mono (fun b hb => h.bL b (.inl hb))⟩
    rintro b (e | e)
    · rcases gL b e with e3 | e3
      · exact h.bL b (.inl e3)
      · exact h.nw b e3
    · exact h.bL b (.inr e)

/-- At what the raw numbers speak of, by the functions alone. -/
theorem sev_fs (l : List (Nat × Tab)) (F : List Int) (i : Nat) (hF : F.getD i 0 ≠ -1) : sevB l F i = true ∧ sevT l F i = (l.map Prod.snd).getD (pickI (F.getD i 0) (l.map Prod.snd).length).toNat 0 := by
  have h : atR l F i = some (l.getD (pickI (F.getD i 0) l.length).toNat (0, 0)) := by unfold atR; rw [if_neg hF]
  refine ⟨by unfold sevB; rw [h]; rfl, ?_⟩
  unfold sevT
  rw [h]
  simp only [List.length_map]
  generalize (pickI (F.getD i 0) l.length).toNat = k
  rw [List.getD_eq_getElem?_getD, List.getD_eq_getElem?_getD, List.getElem?_map]
  cases l[k]? <;> rfl

def sA : ByteArray := ⟨#[97]⟩
def sB : ByteArray := ⟨#[98]⟩
def kC : Tab := iteT (mask 0) (mask 1) 0
def knS : Nat → RefS
  | 0 => ⟨300, [], [], []⟩
  | 1 => ⟨300, [], [], []⟩
  | 2 => ⟨300, [sA], [0], [mask 0]⟩
  | 3 => ⟨300, [sA, sB], [0, 1], [mask 0, mask 1]⟩
  | 4 => ⟨300, [sA, sB], [0, 1], [mask 0, mask 1, kC]⟩
  | _ => ⟨300, [sA, sB], [0, 1], [mask 0, mask 1, kC, ~~~ kC]⟩
def knF : Nat → List Tab
  | 0 => [0, onesT]
  | 1 => [0, onesT]
  | 2 => [0, onesT, mask 0]
  | 3 => [0, onesT, mask 0, mask 1]
  | 4 => [0, onesT, mask 0, mask 1, kC]
  | _ => [0, onesT, mask 0, mask 1, kC, ~~~ kC]

theorem kn_var1 : isNameB sA = true ∧ namedI (knS 1).names sA = -1 ∧ (knS 1).names.length < 6 ∧ ¬ (knS 1).cap < ((allT (newOrder (knS 1)) (newVarT (knS 1))).length : Int) := by
  refine ⟨by kernel_rfl, by kernel_rfl, by decide, of_decide_eq_true (by kernel_rfl)⟩
theorem kn_var2 : isNameB sB = true ∧ namedI (knS 2).names sB = -1 ∧ (knS 2).names.length < 6 ∧ ¬ (knS 2).cap < ((allT (newOrder (knS 2)) (newVarT (knS 2))).length : Int) := by
  refine ⟨by kernel_rfl, by kernel_rfl, by decide, of_decide_eq_true (by kernel_rfl)⟩
theorem kn_s2 : ({ knS 1 with names := (knS 1).names ++ [sA], order := newOrder (knS 1), live := newVarT (knS 1) } : RefS) = knS 2 := by kernel_rfl
theorem kn_f2 : toldF (knF 1) (mask (knS 1).names.length) = knF 2 := by kernel_rfl
theorem kn_s3 : ({ knS 2 with names := (knS 2).names ++ [sB], order := newOrder (knS 2), live := newVarT (knS 2) } : RefS) = knS 3 := by kernel_rfl
theorem kn_f3 : toldF (knF 2) (mask (knS 2).names.length) = knF 3 := by kernel_rfl
theorem kn_s4 : ({ knS 3 with names := (knS 3).names, order := (knS 3).order, live := withT (knS 3).live [kC] } : RefS) = knS 4 := by kernel_rfl
theorem kn_f4 : toldF (knF 3) kC = knF 4 := by kernel_rfl
theorem kn_s5 : ({ knS 4 with names := (knS 4).names, order := (knS 4).order, live := withT (knS 4).live [~~~ kC] } : RefS) = knS 5 := by kernel_rfl
theorem kn_f5 : toldF (knF 4) (~~~ kC) = knF 5 := by kernel_rfl
theorem kn_room4 : ¬ ((300 : Int) < ((allT (knS 3).order (withT (knS 3).live [kC])).length : Int)) := of_decide_eq_true (by kernel_rfl)
theorem kn_room5 : ¬ ((300 : Int) < ((allT (knS 4).order (withT (knS 4).live [~~~ kC])).length : Int)) := of_decide_eq_true (by kernel_rfl)

end Go.Proofs.YtebfmcafmojlaaaGreatDoor

/-
  copselaw.World: known: its steps.
-/
namespace Go.Proofs.YtebfmcafmojlaaaGreatDoor
open Go.RowKit
set_option linter.unusedSimpArgs false
set_option linter.unusedVariables false

def KnPost (I : (Nat → Prop) → World → Nat → CopS → Prop) (cF cT : Nat) (G : Nat → Prop) (w : World) (wb n m : Nat) (S : RefS) (fs : List Tab) (w' : World) : Prop :=
  ∃ L' OL' K' O' tb', OneIs I cF cT G w' wb L' OL' K' O' tb' n m S fs ∧ Only G w w'

theorem kn_new {I : (Nat → Prop) → World → Nat → CopS → Prop} {cF cT : Nat} (sp : CopseSpec I cF cT) {G : Nat → Prop} {w : World} {wb : Nat} {L : LawS} {OL K : Nat → Prop} {Os : Nat → Nat → Prop} {Ns : Nat → Nat} (h : AllIs I cF cT G w wb L OL K Os Ns 0) (h0 : L.tbs = []) {o : OpS} {fv : Value} (ho : OpOk w o fv) (hk : o.kind = 1) (ha : o.a = 300) :
    Calls Tryz.prog 26 #[.pointer (some ⟨wb, 0, none⟩), opv o fv] w fun e w' => e = .returned (.bool true) ∧ KnPost I cF cT G w wb 1 1 (knS 1) (knF 1) w' := by
  refine plays_begin ho hk (fun w1 hb => ?_)
  have h' := h.below sp hb
  refine (begin_yes sp o fv h'.law (by rw [h0]; simp) (ho.below hb) (by omega) (by omega)).mono ?_
  rintro e w' ⟨he, hp⟩
  rw [ha] at hp
  obtain ⟨L', OL', O, tb, h1, h2⟩ := one_begun h' h0 (by omega) hp
  exact ⟨he, L', OL', K, O, tb, h1.mono (by omega) (by omega), (only_of_below hb G).trans h2 (Grows.refl _ _)⟩

theorem one_pick {L : LawS} {tb : Nat} (h : L.tbs = [tb]) (on : Int) : pickI on L.tbs.length = ((0 : Nat) : Int) := by
  rw [h]
  unfold pickI
  show _ % ((1 : Nat) : Int) = _
  exact Int.emod_one _

theorem kn_var {I : (Nat → Prop) → World → Nat → CopS → Prop} {cF cT : Nat} (sp : CopseSpec I cF cT) {G : Nat → Prop} {w : World} {wb : Nat} {L : LawS} {OL K O : Nat → Prop} {tb N M : Nat} {S : RefS} {fs : List Tab} (h : OneIs I cF cT G w wb L OL K O tb N M S fs) (hN : N ≤ 3000000) {o : OpS} {fv : Value} (ho : OpOk w o fv) (hk : o.kind = 2)
    (hc : isNameB o.s = true ∧ namedI S.names o.s = -1 ∧ S.names.length < 6 ∧ ¬ S.cap < ((allT (newOrder S) (newVarT S)).length : Int)) :
    Calls Tryz.prog 26 #[.pointer (some ⟨wb, 0, none⟩), opv o fv] w fun e w' => e = .returned (.bool true) ∧ KnPost I cF cT G w wb (N + 1) M { S with names := S.names ++ [o.s], order := newOrder S, live := newVarT S } (toldF fs (mask S.names.length)) w' := by
  obtain ⟨x, r, C, l, av, OT, OX, OR, st, ok, hO, hl⟩ := h.tw
  have hU := un_eq hO
  subst hl
  subst hU
  refine (plays_var_room sp st ok hN h.law (by rw [h.tbs]; simp) (k := 0) (by rw [h.tbs]; simp) (by rw [h.tbs]; rfl) ho (one_pick h.tbs _) hk hc.1 hc.2.1 hc.2.2.1 hc.2.2.2).mono ?_
  rintro e w' ⟨he, hp⟩
  obtain ⟨O', h1, h2⟩ := h.step hp
  exact ⟨he, L, OL, K, O', tb, h1, h2⟩

theorem kn_ite {I : (Nat → Prop) → World → Nat → CopS → Prop} {cF cT : Nat} (sp : CopseSpec I cF cT) {G : Nat → Prop} {w : World} {wb : Nat} {L : LawS} {OL K O : Nat → Prop} {tb N M : Nat} (h : OneIs I cF cT G w wb L OL K O tb N M (knS 3) (knF 3)) (hN : N ≤ 3000000) {o : OpS} {fv : Value} (ho : OpOk w o fv) (hk : o.kind = 4) (hF : o.f = [2, 3, 0]) :
    Calls Tryz.prog 26 #[.pointer (some ⟨wb, 0, none⟩), opv o fv] w fun e w' => e = .returned (.bool true) ∧ KnPost I cF cT G w wb (N + 1) M (knS 4) (knF 4) w' := by
  refine plays_works h.law (by rw [h.tbs]; simp) (k := 0) (by rw [h.tbs]; simp) ho (one_pick h.tbs _) (.inr (.inl hk)) (fun w1 hb => ?_)
  have h' := h.below sp hb
  have htb : L.tbs.getD 0 0 = tb := by rw [h.tbs]; rfl
  rw [htb]
  obtain ⟨x, r, C, l, av, OT, OX, OR, st, ok, hO, hl⟩ := h'.tw
  have hU := un_eq hO
  subst hU
  have q0 := sev_fs l o.f 0 (by rw [hF]; decide)
  have q1 := sev_fs l o.f 1 (by rw [hF]; decide)
  have q2 := sev_fs l o.f 2 (by rw [hF]; decide)
  rw [hl] at q0 q1 q2
  have e0 : sevT l o.f 0 = mask 0 := by rw [q0.2, hF]; kernel_rfl
  have e1 : sevT l o.f 1 = mask 1 := by rw [q1.2, hF]; kernel_rfl
  have e2 : sevT l o.f 2 = 0 := by rw [q2.2, hF]; kernel_rfl
  have hfull : ¬ fullC C (knS 3).live (iteT (sevT l o.f 0) (sevT l o.f 1) (sevT l o.f 2)) := by
    rw [e0, e1, e2]
    unfold fullC
    rw [ok.cap, ok.order]
    exact kn_room4
  have hw := works_ite_room sp st ok hN o fv (ho.below hb).f (Nat.le_trans ho.fl (by decide)) ho.z ho.s hk ⟨q0.1, q1.1, q2.1⟩ hfull
  rw [e0, e1, e2, hl] at hw
  refine hw.mono ?_
  rintro e w' ⟨he, hp⟩
  obtain ⟨O', h1, h2⟩ := h'.step hp
  exact ⟨he, L, OL, K, O', tb, kn_s4 ▸ kn_f4 ▸ h1, (only_of_below hb G).trans h2 (Grows.refl _ _)⟩

theorem kn_not {I : (Nat → Prop) → World → Nat → CopS → Prop} {cF cT : Nat} (sp : CopseSpec I cF cT) {G : Nat → Prop} {w : World} {wb : Nat} {L : LawS} {OL K O : Nat → Prop} {tb N M : Nat} (h : OneIs I cF cT G w wb L OL K O tb N M (knS 4) (knF 4)) (hN : N ≤ 3000000) {o : OpS} {fv : Value} (ho : OpOk w o fv) (hk : o.kind = 3) (hF : o.f = [4]) :
    Calls Tryz.prog 26 #[.pointer (some ⟨wb, 0, none⟩), opv o fv] w fun e w' => e = .returned (.bool true) ∧ KnPost I cF cT G w wb (N + 1) M (knS 5) (knF 5) w' := by
  refine plays_works h.law (by rw [h.tbs]; simp) (k := 0) (by rw [h.tbs]; simp) ho (one_pick h.tbs _) (.inl hk) (fun w1 hb => ?_)
  have h' := h.below sp hb
  have htb : L.tbs.getD 0 0 = tb := by rw [h.tbs]; rfl
  rw [htb]
  obtain ⟨x, r, C, l, av, OT, OX, OR, st, ok, hO, hl⟩ := h'.tw
  have hU := un_eq hO
  subst hU
  have q0 := sev_fs l o.f 0 (by rw [hF]; decide)
  rw [hl] at q0
  have e0 : sevT l o.f 0 = kC := by rw [q0.2, hF]; kernel_rfl
  have hfull : ¬ fullC C (knS 4).live (~~~ (sevT l o.f 0)) := by
    rw [e0]
    unfold fullC
    rw [ok.cap, ok.order]
    exact kn_room5
  have hw := works_not_room sp st ok hN o fv (ho.below hb).f (Nat.le_trans ho.fl (by decide)) ho.z ho.s hk q0.1 hfull
  rw [e0, hl] at hw
  refine hw.mono ?_
  rintro e w' ⟨he, hp⟩
  obtain ⟨O', h1, h2⟩ := h'.step hp
  exact ⟨he, L, OL, K, O', tb, kn_s5 ▸ kn_f5 ▸ h1, (only_of_below hb G).trans h2 (Grows.refl _ _)⟩

theorem kn_nodes {I : (Nat → Prop) → World → Nat → CopS → Prop} {cF cT : Nat} (sp : CopseSpec I cF cT) {G : Nat → Prop} {w : World} {wb : Nat} {L : LawS} {OL K O : Nat → Prop} {tb N M : Nat} {S : RefS} {fs : List Tab} (h : OneIs I cF cT G w wb L OL K O tb N M S fs) (hN : N ≤ 3000000) (hM : M ≤ 20000000) {o : OpS} {fv : Value} (ho : OpOk w o fv) (hk : o.kind = 8) :
    Calls Tryz.prog 26 #[.pointer (some ⟨wb, 0, none⟩), opv o fv] w fun e w' => e = .returned (.bool true) ∧ KnPost I cF cT G w wb (N + 1) (M + 1) S fs w' := by
  refine plays_asks h.law (by rw [h.tbs]; simp) (k := 0) (by rw [h.tbs]; simp) ho (one_pick h.tbs _) (.inr (.inr hk)) (fun w1 hb => ?_)
  have h' := h.below sp hb
  have htb : L.tbs.getD 0 0 = tb := by rw [h.tbs]; rfl
  rw [htb]
  obtain ⟨x, r, C, l, av, OT, OX, OR, st, ok, hO, hl⟩ := h'.tw
  have hU := un_eq hO
  subst hU
  subst hl
  have hmi := h.mi
  have hmn := h.mn
  refine (asks_nodes sp st ok hN o fv (ho.below hb).f (Nat.le_trans ho.fl (by decide)) ho.z ho.s hk h'.law h'.d (by omega) (by omega) ho.fl).mono ?_
  rintro e w' ⟨he, hp⟩
  obtain ⟨L', OL', K', O', h1, h2⟩ := h'.ask hp
  exact ⟨he, L', OL', K', O', tb, h1, (only_of_below hb G).trans h2 (Grows.refl _ _)⟩

end Go.Proofs.YtebfmcafmojlaaaGreatDoor

/-
  copselaw.World: known, walked.
-/
namespace Go.Proofs.YtebfmcafmojlaaaGreatDoor
open Go.RowKit
set_option linter.unusedSimpArgs false
set_option linter.unusedVariables false

def knOps (n : Nat) : Array Value := #[.int .i64 1, .int .i64 0, .int .i64 300, .bool false, .slice none 0 0, .string ⟨#[]⟩,
  .int .i64 2, .int .i64 0, .int .i64 0, .bool false, .slice none 0 0, .string ⟨#[97]⟩,
  .int .i64 2, .int .i64 0, .int .i64 0, .bool false, .slice none 0 0, .string ⟨#[98]⟩,
  .int .i64 4, .int .i64 0, .int .i64 0, .bool false, .slice (some ⟨n, 0, none⟩) 3 3, .string ⟨#[]⟩,
  .int .i64 3, .int .i64 0, .int .i64 0, .bool false, .slice (some ⟨n + 1, 0, none⟩) 1 1, .string ⟨#[]⟩,
  .int .i64 8, .int .i64 0, .int .i64 0, .bool false, .slice (some ⟨n + 1 + 1, 0, none⟩) 3 3, .string ⟨#[]⟩,
  .int .i64 13, .int .i64 0, .int .i64 0, .bool false, .slice none 0 0, .string ⟨#[98]⟩,
  .int .i64 11, .int .i64 0, .int .i64 0, .bool false, .slice none 0 0, .string ⟨#[]⟩,
  .int .i64 15, .int .i64 0, .int .i64 0, .bool false, .slice (some ⟨n + 1 + 1 + 1, 0, none⟩) 2 2, .string ⟨#[]⟩,
  .int .i64 13, .int .i64 0, .int .i64 0, .bool false, .slice none 0 0, .string ⟨#[97]⟩]
def knW (w : World) : World := ((((w.alloc (.cells #[.int .i64 2, .int .i64 3, .int .i64 0] 3)).alloc (.cells #[.int .i64 4] 3)).alloc (.cells #[.int .i64 2, .int .i64 3, .int .i64 4] 3)).alloc (.cells #[.int .i64 4, .int .i64 5] 3)).alloc (.cells (knOps w.heap.size) 66)
def knG (w : World) (wb : Nat) : Nat → Prop := fun b => b = wb ∨ w.heap.size + 5 ≤ b

theorem knW_size (w : World) : (knW w).heap.size = w.heap.size + 5 := by unfold knW; simp
theorem knW_below (w : World) : Below w.heap.size w (knW w) := by
  unfold knW
  refine ((((((Below.refl _ _).alloc (Nat.le_refl _) _).alloc ?_ _).alloc ?_ _).alloc ?_ _).alloc ?_ _) <;> simp <;> omega
theorem knW_0 (w : World) : (knW w).heap[w.heap.size]? = some (.cells #[.int .i64 2, .int .i64 3, .int .i64 0] 3 (0, 0)) := by
  unfold knW
  rw [Below.heap_alloc _ _ _ (by simp <;> omega)]
  rw [Below.heap_alloc _ _ _ (by simp <;> omega)]
  rw [Below.heap_alloc _ _ _ (by simp <;> omega)]
  rw [Below.heap_alloc _ _ _ (by simp <;> omega)]
  have h := heap_alloc_new w (.cells #[.int .i64 2, .int .i64 3, .int .i64 0] 3)
  simpa using h
theorem knW_1 (w : World) : (knW w).heap[w.heap.size + 1]? = some (.cells #[.int .i64 4] 3 (0, 0)) := by
  unfold knW
  rw [Below.heap_alloc _ _ _ (by simp <;> omega)]
  rw [Below.heap_alloc _ _ _ (by simp <;> omega)]
  rw [Below.heap_alloc _ _ _ (by simp <;> omega)]
  have h := heap_alloc_new (w.alloc (.cells #[.int .i64 2, .int .i64 3, .int .i64 0] 3)) (.cells #[.int .i64 4] 3)
  simpa using h
theorem knW_2 (w : World) : (knW w).heap[w.heap.size + 1 + 1]? = some (.cells #[.int .i64 2, .int .i64 3, .int .i64 4] 3 (0, 0)) := by
  unfold knW
  rw [Below.heap_alloc _ _ _ (by simp <;> omega)]
  rw [Below.heap_alloc _ _ _ (by simp <;> omega)]
  have h := heap_alloc_new ((w.alloc (.cells #[.int .i64 2, .int .i64 3, .int .i64 0] 3)).alloc (.cells #[.int .i64 4] 3)) (.cells #[.int .i64 2, .int .i64 3, .int .i64 4] 3)
  simpa using h
theorem knW_3 (w : World) : (knW w).heap[w.heap.size + 1 + 1 + 1]? = some (.cells #[.int .i64 4, .int .i64 5] 3 (0, 0)) := by
  unfold knW
  rw [Below.heap_alloc _ _ _ (by simp <;> omega)]
  have h := heap_alloc_new (((w.alloc (.cells #[.int .i64 2, .int .i64 3, .int .i64 0] 3)).alloc (.cells #[.int .i64 4] 3)).alloc (.cells #[.int .i64 2, .int .i64 3, .int .i64 4] 3)) (.cells #[.int .i64 4, .int .i64 5] 3)
  simpa using h
theorem knW_4 (w : World) : (knW w).heap[w.heap.size + 1 + 1 + 1 + 1]? = some (.cells (knOps w.heap.size) 66 (0, 0)) := by
  unfold knW
  have h := heap_alloc_new ((((w.alloc (.cells #[.int .i64 2, .int .i64 3, .int .i64 0] 3)).alloc (.cells #[.int .i64 4] 3)).alloc (.cells #[.int .i64 2, .int .i64 3, .int .i64 4] 3)).alloc (.cells #[.int .i64 4, .int .i64 5] 3)) (.cells (knOps w.heap.size) 66)
  simpa using h

/-- Behind k of the ten. -/
def KnSt (I : (Nat → Prop) → World → Nat → CopS → Prop) (cF cT : Nat) (w : World) (wb k : Nat) (wr : World) : Prop :=
  Only (knG w wb) (knW w) wr ∧ ((k = 0 ∧ ∃ L OL K Os, AllIs I cF cT (knG w wb) wr wb L OL K Os (fun _ => 0) 0 ∧ L.tbs = []) ∨ (1 ≤ k ∧ ∃ L OL K O tb, OneIs I cF cT (knG w wb) wr wb L OL K O tb k k (knS k) (knF k)))

theorem KnSt.heap {I : (Nat → Prop) → World → Nat → CopS → Prop} {cF cT : Nat} {w : World} {wb k : Nat} {wr : World} (h : KnSt I cF cT w wb k wr) (hwb : wb < w.heap.size) {b : Nat} (h1 : w.heap.size ≤ b) (h2 : b < w.heap.size + 5) : wr.heap[b]? = (knW w).heap[b]? :=
  h.1.block b (by rw [knW_size]; exact h2) (by unfold knG; omega)

theorem reads_cells {wr : World} {b : Nat} {xs : List Int} {t : TypeId} (h : wr.heap[b]? = some (.cells (xs.map zv).toArray t (0, 0))) : FReads wr.heap.size wr (.slice (some ⟨b, 0, none⟩) xs.length xs.length) (xs.map zv) := by
  refine .inr ⟨b, 0, xs.length, by rw [List.length_map], own_lt h, ?_⟩
  intro i hi
  rw [Nat.zero_add, cell_of_heap h, List.getElem?_toArray, List.getD_eq_getElem?_getD, List.getElem?_eq_getElem hi]
  rfl

theorem op_ok (w : World) (o : OpS) (fv : Value) (hf : FReads w.heap.size w fv (o.f.map zv)) (hl : o.f.length ≤ 100) (hz : ∀ z ∈ o.f, 0 ≤ z ∧ z ≤ 100) (hs : o.s.size ≤ 100) (ha : 0 ≤ o.a ∧ o.a ≤ 1000) (hon : o.on = 0) (hk : 0 ≤ o.kind ∧ o.kind ≤ 100) : OpOk w o fv := by
  refine ⟨hf, by omega, fun z hz2 => ?_, Nat.le_trans hs (by decide), ?_, ?_, ?_⟩
  · have := hz z hz2; unfold i64ok; omega
  · unfold i64ok; omega
  · unfold i64ok; omega
  · unfold i64ok; omega

theorem kn_play0 {I : (Nat → Prop) → World → Nat → CopS → Prop} {cF cT : Nat} (sp : CopseSpec I cF cT) {w : World} {wb : Nat} {wr : World} (h : KnSt I cF cT w wb 0 wr) (hwb : wb < w.heap.size) :
    Calls Tryz.prog 26 #[.pointer (some ⟨wb, 0, none⟩), .agg #[.int .i64 1, .int .i64 0, .int .i64 300, .bool false, .slice none 0 0, .string ⟨#[]⟩]] wr fun e w' => e = .returned (.bool true) ∧ KnSt I cF cT w wb 1 w' := by
  have ho : OpOk wr ⟨1, 0, 300, false, [], ⟨#[]⟩⟩ (.slice none 0 0) := op_ok _ _ _ (.inl ⟨rfl, none, 0, rfl⟩) (by decide) (by decide) (by decide) (by decide) rfl (by decide)
  rcases h.2 with ⟨_, L, OL, K, Os, hA, h0⟩ | ⟨h1, _⟩
  · refine (kn_new sp hA h0 ho rfl rfl).mono ?_
    rintro e w' ⟨he, L', OL', K', O', tb', h1, h2⟩
    exact ⟨he, h.1.trans h2 (Grows.refl _ _), .inr ⟨by omega, L', OL', K', O', tb', h1⟩⟩
  · omega

theorem kn_play1 {I : (Nat → Prop) → World → Nat → CopS → Prop} {cF cT : Nat} (sp : CopseSpec I cF cT) {w : World} {wb : Nat} {wr : World} (h : KnSt I cF cT w wb 1 wr) (hwb : wb < w.heap.size) :
    Calls Tryz.prog 26 #[.pointer (some ⟨wb, 0, none⟩), .agg #[.int .i64 2, .int .i64 0, .int .i64 0, .bool false, .slice none 0 0, .string ⟨#[97]⟩]] wr fun e w' => e = .returned (.bool true) ∧ KnSt I cF cT w wb 2 w' := by
  have ho : OpOk wr ⟨2, 0, 0, false, [], ⟨#[97]⟩⟩ (.slice none 0 0) := op_ok _ _ _ (.inl ⟨rfl, none, 0, rfl⟩) (by decide) (by decide) (by decide) (by decide) rfl (by decide)
  rcases h.2 with ⟨h1, _⟩ | ⟨_, L, OL, K, O, tb, hO⟩
  · omega
  · refine (kn_var sp hO (by decide) ho rfl kn_var1).mono ?_
    rintro e w' ⟨he, L', OL', K', O', tb', h1, h2⟩
    exact ⟨he, h.1.trans h2 (Grows.refl _ _), .inr ⟨by omega, L', OL', K', O', tb', OneIs.mono (kn_s2 ▸ kn_f2 ▸ h1) (by omega) (by omega)⟩⟩

theorem kn_play2 {I : (Nat → Prop) → World → Nat → CopS → Prop} {cF cT : Nat} (sp : CopseSpec I cF cT) {w : World} {wb : Nat} {wr : World} (h : KnSt I cF cT w wb 2 wr) (hwb : wb < w.heap.size) :
    Calls Tryz.prog 26 #[.pointer (some ⟨wb, 0, none⟩), .agg #[.int .i64 2, .int .i64 0, .int .i64 0, .bool false, .slice none 0 0, .string ⟨#[98]⟩]] wr fun e w' => e = .returned (.bool true) ∧ KnSt I cF cT w wb 3 w' := by
  have ho : OpOk wr ⟨2, 0, 0, false, [], ⟨#[98]⟩⟩ (.slice none 0 0) := op_ok _ _ _ (.inl ⟨rfl, none, 0, rfl⟩) (by decide) (by decide) (by decide) (by decide) rfl (by decide)
  rcases h.2 with ⟨h1, _⟩ | ⟨_, L, OL, K, O, tb, hO⟩
  · omega
  · refine (kn_var sp hO (by decide) ho rfl kn_var2).mono ?_
    rintro e w' ⟨he, L', OL', K', O', tb', h1, h2⟩
    exact ⟨he, h.1.trans h2 (Grows.refl _ _), .inr ⟨by omega, L', OL', K', O', tb', OneIs.mono (kn_s3 ▸ kn_f3 ▸ h1) (by omega) (by omega)⟩⟩

theorem kn_play3 {I : (Nat → Prop) → World → Nat → CopS → Prop} {cF cT : Nat} (sp : CopseSpec I cF cT) {w : World} {wb : Nat} {wr : World} (h : KnSt I cF cT w wb 3 wr) (hwb : wb < w.heap.size) :
    Calls Tryz.prog 26 #[.pointer (some ⟨wb, 0, none⟩), .agg #[.int .i64 4, .int .i64 0, .int .i64 0, .bool false, .slice (some ⟨w.heap.size, 0, none⟩) 3 3, .string ⟨#[]⟩]] wr fun e w' => e = .returned (.bool true) ∧ KnSt I cF cT w wb 4 w' := by
  have ho : OpOk wr ⟨4, 0, 0, false, [2, 3, 0], ⟨#[]⟩⟩ (.slice (some ⟨w.heap.size, 0, none⟩) 3 3) := op_ok _ _ _ (reads_cells (xs := [2, 3, 0]) ((h.heap hwb (by omega) (by omega)).trans (knW_0 w))) (by decide) (by decide) (by decide) (by decide) rfl (by decide)
  rcases h.2 with ⟨h1, _⟩ | ⟨_, L, OL, K, O, tb, hO⟩
  · omega
  · refine (kn_ite sp hO (by decide) ho rfl rfl).mono ?_
    rintro e w' ⟨he, L', OL', K', O', tb', h1, h2⟩
    exact ⟨he, h.1.trans h2 (Grows.refl _ _), .inr ⟨by omega, L', OL', K', O', tb', OneIs.mono h1 (by omega) (by omega)⟩⟩

theorem kn_play4 {I : (Nat → Prop) → World → Nat → CopS → Prop} {cF cT : Nat} (sp : CopseSpec I cF cT) {w : World} {wb : Nat} {wr : World} (h : KnSt I cF cT w wb 4 wr) (hwb : wb < w.heap.size) :
    Calls Tryz.prog 26 #[.pointer (some ⟨wb, 0, none⟩), .agg #[.int .i64 3, .int .i64 0, .int .i64 0, .bool false, .slice (some ⟨w.heap.size + 1, 0, none⟩) 1 1, .string ⟨#[]⟩]] wr fun e w' => e = .returned (.bool true) ∧ KnSt I cF cT w wb 5 w' := by
  have ho : OpOk wr ⟨3, 0, 0, false, [4], ⟨#[]⟩⟩ (.slice (some ⟨w.heap.size + 1, 0, none⟩) 1 1) := op_ok _ _ _ (reads_cells (xs := [4]) ((h.heap hwb (by omega) (by omega)).trans (knW_1 w))) (by decide) (by decide) (by decide) (by decide) rfl (by decide)
  rcases h.2 with ⟨h1, _⟩ | ⟨_, L, OL, K, O, tb, hO⟩
  · omega
  · refine (kn_not sp hO (by decide) ho rfl rfl).mono ?_
    rintro e w' ⟨he, L', OL', K', O', tb', h1, h2⟩
    exact ⟨he, h.1.trans h2 (Grows.refl _ _), .inr ⟨by omega, L', OL', K', O', tb', OneIs.mono h1 (by omega) (by omega)⟩⟩

theorem kn_play5 {I : (Nat → Prop) → World → Nat → CopS → Prop} {cF cT : Nat} (sp : CopseSpec I cF cT) {w : World} {wb : Nat} {wr : World} (h : KnSt I cF cT w wb 5 wr) (hwb : wb < w.heap.size) :
    Calls Tryz.prog 26 #[.pointer (some ⟨wb, 0, none⟩), .agg #[.int .i64 8, .int .i64 0, .int .i64 0, .bool false, .slice (some ⟨w.heap.size + 1 + 1, 0, none⟩) 3 3, .string ⟨#[]⟩]] wr fun e w' => e = .returned (.bool true) ∧ KnSt I cF cT w wb 6 w' := by
  have ho : OpOk wr ⟨8, 0, 0, false, [2, 3, 4], ⟨#[]⟩⟩ (.slice (some ⟨w.heap.size + 1 + 1, 0, none⟩) 3 3) := op_ok _ _ _ (reads_cells (xs := [2, 3, 4]) ((h.heap hwb (by omega) (by omega)).trans (knW_2 w))) (by decide) (by decide) (by decide) (by decide) rfl (by decide)
  rcases h.2 with ⟨h1, _⟩ | ⟨_, L, OL, K, O, tb, hO⟩
  · omega
  · refine (kn_nodes sp hO (by decide) (by decide) ho rfl).mono ?_
    rintro e w' ⟨he, L', OL', K', O', tb', h1, h2⟩
    exact ⟨he, h.1.trans h2 (Grows.refl _ _), .inr ⟨by omega, L', OL', K', O', tb', OneIs.mono h1 (by omega) (by omega)⟩⟩

theorem KnSt.skip {I : (Nat → Prop) → World → Nat → CopS → Prop} {cF cT : Nat} {w : World} {wb k : Nat} {wr : World} (h : KnSt I cF cT w wb k wr) (h1 : 1 ≤ k) (hs : knS k = knS (k + 1)) (hf : knF k = knF (k + 1)) : KnSt I cF cT w wb (k + 1) wr := by
  refine ⟨h.1, .inr ⟨by omega, ?_⟩⟩
  rcases h.2 with ⟨h0, _⟩ | ⟨_, L, OL, K, O, tb, hO⟩
  · omega
  · rw [hs, hf] at hO
    exact ⟨L, OL, K, O, tb, hO.mono (Nat.le_succ _) (Nat.le_succ _)⟩

def knGo (w : World) (wb : Nat) : Nat → Prop := fun b => b = wb ∨ w.heap.size ≤ b

theorem KnSt.done {I : (Nat → Prop) → World → Nat → CopS → Prop} {cF cT : Nat} {w : World} {wb : Nat} {wr : World} (h : KnSt I cF cT w wb 10 wr) :
    ∃ L OL K Os tb g cap ao tcap, AllIs I cF cT (knGo w wb) wr wb L OL K Os (fun _ => 10) 10 ∧ L.tbs.length = 1 ∧ Only (knGo w wb) w wr ∧ wr.cell? ⟨wb, 0, none⟩ = some (.slice (some ⟨g, 0, none⟩) 1 cap) ∧ wr.cell? ⟨g, 0, none⟩ = some (.pointer (some ⟨tb, 0, none⟩)) ∧ wr.cell? ⟨tb, 2, none⟩ = some (.slice ao 6 tcap) := by
  rcases h.2 with ⟨h0, _⟩ | ⟨_, L, OL, K, O, tb, hO⟩
  · omega
  · have hl : L.tbs.length = 1 := by rw [hO.tbs]; rfl
    have hG : ∀ b, knG w wb b → knGo w wb b := by
      rintro b (e | e)
      · exact .inl e
      · exact .inr (by omega)
    obtain ⟨⟨av, tv, mv, iv, nv, hLa⟩, hK, hdk⟩ := hO.law
    obtain ⟨g, cap, rfl, hgl, hgk⟩ := law_twin hLa (k := 0) (by rw [hl]; omega)
    have hcell : wr.cell? ⟨wb, 0, none⟩ = some (.slice (some ⟨g, 0, none⟩) L.tbs.length cap) := by rw [cell_of_heap hLa.cells]; rfl
    rw [hl] at hcell
    rw [hO.tbs] at hgk
    obtain ⟨x, r, C, l, av, OT, OX, OR, st, ok, hOb, hfs⟩ := hO.tw
    obtain ⟨ao, tcap, rfl⟩ := st.t.row.form
    have hll : l.length = 6 := by
      have := congrArg List.length hfs
      rw [List.length_map] at this
      exact this
    have hc2 : wr.cell? ⟨tb, 2, none⟩ = some (.slice ao l.length tcap) := by rw [cell_of_heap st.t.cells]; rfl
    rw [hll] at hc2
    exact ⟨L, OL, K, _, tb, g, cap, ao, tcap, hO.all.widen hG, hl, (only_of_below (knW_below w) _).trans (h.1.mono hG) (Grows.refl _ _), hcell, hgk, hc2⟩

theorem kn_start {I : (Nat → Prop) → World → Nat → CopS → Prop} {cF cT : Nat} {w : World} {wb : Nat} (hl : LawIs (fun b => b = wb) (fun _ => False) w wb ⟨[], [], [], [], [], 0⟩) : KnSt I cF cT w wb 0 (knW w) := by
  refine ⟨Only.refl _ _, .inl ⟨rfl, ⟨[], [], [], [], [], 0⟩, fun b => b = wb, fun _ => False, fun _ _ => False, ⟨?_, ?_, ?_, ?_, ?_, ?_, ?_, by simp, by simp, by simp⟩, rfl⟩⟩
  · exact hl.keep (knW_below w).size (fun k hk => (knW_below w).block k (hl.lt k hk))
  · intro j hj; simp at hj
  · intro j hj; simp at hj
  · intro i j hi; simp at hi
  · rintro b (e | e)
    · exact .inl e
    · exact absurd e (fun h => h)
  · intro j hj; simp at hj
  · intro b hb
    rw [knW_size] at hb
    exact .inr hb

end Go.Proofs.YtebfmcafmojlaaaGreatDoor

/-
  copselaw.World: known, with Move and Live.
-/
namespace Go.Proofs.YtebfmcafmojlaaaGreatDoor
open Go.RowKit
set_option linter.unusedSimpArgs false
set_option linter.unusedVariables false

def knS2 : Nat → RefS
  | 0 => knS 0
  | 1 => knS 1
  | 2 => knS 2
  | 3 => knS 3
  | 4 => knS 4
  | 5 => knS 5
  | 6 => knS 6
  | 7 => ⟨300, [sA, sB], [1, 0], [mask 0, mask 1, kC, ~~~ kC]⟩
  | 8 => ⟨300, [sA, sB], [1, 0], [mask 0, mask 1, kC, ~~~ kC]⟩
  | 9 => ⟨300, [sA, sB], [1, 0], [mask 0, mask 1, kC, ~~~ kC]⟩
  | _ => ⟨300, [sA, sB], [0, 1], [mask 0, mask 1, kC, ~~~ kC]⟩

theorem kn_mv6 : (moveR (knS2 6) sB 0).2 = knS2 7 := by kernel_rfl
theorem kn_mv9 : (moveR (knS2 9) sA 0).2 = knS2 10 := by kernel_rfl

theorem kn_move {I : (Nat → Prop) → World → Nat → CopS → Prop} {cF cT : Nat} (sp : CopseSpec2 I cF cT) {G : Nat → Prop} {w : World} {wb : Nat} {L : LawS} {OL K O : Nat → Prop} {tb N M : Nat} {S : RefS} {fs : List Tab} (h : OneIs I cF cT G w wb L OL K O tb N M S fs) (hN : N ≤ 3000000) {o : OpS} {fv : Value} (ho : OpOk w o fv) (hk : o.kind = 13) :
    Calls Tryz.prog 26 #[.pointer (some ⟨wb, 0, none⟩), opv o fv] w fun e w' => e = .returned (.bool true) ∧ KnPost I cF cT G w wb (N + 1) M (moveR S o.s o.a).2 fs w' := by
  refine plays_orders h.law (by rw [h.tbs]; simp) (k := 0) (by rw [h.tbs]; simp) ho (one_pick h.tbs _) (.inr (.inr (.inl hk))) (fun w1 hb => ?_)
  have h' := h.below sp.b hb
  have htb : L.tbs.getD 0 0 = tb := by rw [h.tbs]; rfl
  rw [htb]
  obtain ⟨x, r, C, l, av, OT, OX, OR, st, ok, hO, hl⟩ := h'.tw
  have hU := un_eq hO
  subst hU
  subst hl
  refine (orders_move sp st ok hN o fv (ho.below hb) hk wb).mono ?_
  rintro e w' ⟨he, hp⟩
  obtain ⟨O', h1, h2⟩ := h'.step hp
  exact ⟨he, L, OL, K, O', tb, h1, (only_of_below hb G).trans h2 (Grows.refl _ _)⟩

theorem kn_live {I : (Nat → Prop) → World → Nat → CopS → Prop} {cF cT : Nat} (sp : CopseSpec2 I cF cT) {G : Nat → Prop} {w : World} {wb : Nat} {L : LawS} {OL K O : Nat → Prop} {tb N M : Nat} {S : RefS} {fs : List Tab} (h : OneIs I cF cT G w wb L OL K O tb N M S fs) (hN : N ≤ 3000000) {o : OpS} {fv : Value} (ho : OpOk w o fv) (hk : o.kind = 11) :
    Calls Tryz.prog 26 #[.pointer (some ⟨wb, 0, none⟩), opv o fv] w fun e w' => e = .returned (.bool true) ∧ KnPost I cF cT G w wb (N + 1) M S fs w' := by
  refine plays_orders h.law (by rw [h.tbs]; simp) (k := 0) (by rw [h.tbs]; simp) ho (one_pick h.tbs _) (.inr (.inl hk)) (fun w1 hb => ?_)
  have h' := h.below sp.b hb
  have htb : L.tbs.getD 0 0 = tb := by rw [h.tbs]; rfl
  rw [htb]
  obtain ⟨x, r, C, l, av, OT, OX, OR, st, ok, hO, hl⟩ := h'.tw
  have hU := un_eq hO
  subst hU
  subst hl
  refine (orders_live sp st ok hN o fv (ho.below hb) hk wb).mono ?_
  rintro e w' ⟨he, hp⟩
  obtain ⟨O', h1, h2⟩ := h'.step hp
  exact ⟨he, L, OL, K, O', tb, h1, (only_of_below hb G).trans h2 (Grows.refl _ _)⟩

/-- Behind k of the ten. -/
def KnSt2 (I : (Nat → Prop) → World → Nat → CopS → Prop) (cF cT : Nat) (w : World) (wb k : Nat) (wr : World) : Prop :=
  Only (knG w wb) (knW w) wr ∧ ((k = 0 ∧ ∃ L OL K Os, AllIs I cF cT (knG w wb) wr wb L OL K Os (fun _ => 0) 0 ∧ L.tbs = []) ∨ (1 ≤ k ∧ ∃ L OL K O tb, OneIs I cF cT (knG w wb) wr wb L OL K O tb k k (knS2 k) (knF k)))

theorem KnSt2.heap {I : (Nat → Prop) → World → Nat → CopS → Prop} {cF cT : Nat} {w : World} {wb k : Nat} {wr : World} (h : KnSt2 I cF cT w wb k wr) (hwb : wb < w.heap.size) {b : Nat} (h1 : w.heap.size ≤ b) (h2 : b < w.heap.size + 5) : wr.heap[b]? = (knW w).heap[b]? :=
  h.1.block b (by rw [knW_size]; exact h2) (by unfold knG; omega)

theorem kn2_0 {I : (Nat → Prop) → World → Nat → CopS → Prop} {cF cT : Nat} {w : World} {wb : Nat} {wr : World} (k : Nat) (hk : knS2 k = knS k) : KnSt2 I cF cT w wb k wr ↔ KnSt I cF cT w wb k wr := by
  unfold KnSt2 KnSt
  rw [hk]

theorem KnSt2.skip {I : (Nat → Prop) → World → Nat → CopS → Prop} {cF cT : Nat} {w : World} {wb k : Nat} {wr : World} (h : KnSt2 I cF cT w wb k wr) (h1 : 1 ≤ k) (hs : knS2 k = knS2 (k + 1)) (hf : knF k = knF (k + 1)) : KnSt2 I cF cT w wb (k + 1) wr := by
  refine ⟨h.1, .inr ⟨by omega, ?_⟩⟩
  rcases h.2 with ⟨h0, _⟩ | ⟨_, L, OL, K, O, tb, hO⟩
  · omega
  · rw [hs, hf] at hO
    exact ⟨L, OL, K, O, tb, hO.mono (Nat.le_succ _) (Nat.le_succ _)⟩

theorem kn_play6 {I : (Nat → Prop) → World → Nat → CopS → Prop} {cF cT : Nat} (sp : CopseSpec2 I cF cT) {w : World} {wb : Nat} {wr : World} (h : KnSt2 I cF cT w wb 6 wr) (hwb : wb < w.heap.size) :
    Calls Tryz.prog 26 #[.pointer (some ⟨wb, 0, none⟩), .agg #[.int .i64 13, .int .i64 0, .int .i64 0, .bool false, .slice none 0 0, .string ⟨#[98]⟩]] wr fun e w' => e = .returned (.bool true) ∧ KnSt2 I cF cT w wb 7 w' := by
  have ho : OpOk wr ⟨13, 0, 0, false, [], ⟨#[98]⟩⟩ (.slice none 0 0) := op_ok _ _ _ (.inl ⟨rfl, none, 0, rfl⟩) (by decide) (by decide) (by decide) (by decide) rfl (by decide)
  rcases h.2 with ⟨h1, _⟩ | ⟨_, L, OL, K, O, tb, hO⟩
  · omega
  · refine (kn_move sp hO (by decide) ho rfl).mono ?_
    rintro e w' ⟨he, L', OL', K', O', tb', h1, h2⟩
    exact ⟨he, h.1.trans h2 (Grows.refl _ _), .inr ⟨by omega, L', OL', K', O', tb', OneIs.mono (kn_mv6 ▸ h1) (by omega) (by omega)⟩⟩

theorem kn_play7 {I : (Nat → Prop) → World → Nat → CopS → Prop} {cF cT : Nat} (sp : CopseSpec2 I cF cT) {w : World} {wb : Nat} {wr : World} (h : KnSt2 I cF cT w wb 7 wr) (hwb : wb < w.heap.size) :
    Calls Tryz.prog 26 #[.pointer (some ⟨wb, 0, none⟩), .agg #[.int .i64 11, .int .i64 0, .int .i64 0, .bool false, .slice none 0 0, .string ⟨#[]⟩]] wr fun e w' => e = .returned (.bool true) ∧ KnSt2 I cF cT w wb 8 w' := by
  have ho : OpOk wr ⟨11, 0, 0, false, [], ⟨#[]⟩⟩ (.slice none 0 0) := op_ok _ _ _ (.inl ⟨rfl, none, 0, rfl⟩) (by decide) (by decide) (by decide) (by decide) rfl (by decide)
  rcases h.2 with ⟨h1, _⟩ | ⟨_, L, OL, K, O, tb, hO⟩
  · omega
  · refine (kn_live sp hO (by decide) ho rfl).mono ?_
    rintro e w' ⟨he, L', OL', K', O', tb', h1, h2⟩
    exact ⟨he, h.1.trans h2 (Grows.refl _ _), .inr ⟨by omega, L', OL', K', O', tb', OneIs.mono h1 (by omega) (by omega)⟩⟩

theorem kn_play9 {I : (Nat → Prop) → World → Nat → CopS → Prop} {cF cT : Nat} (sp : CopseSpec2 I cF cT) {w : World} {wb : Nat} {wr : World} (h : KnSt2 I cF cT w wb 9 wr) (hwb : wb < w.heap.size) :
    Calls Tryz.prog 26 #[.pointer (some ⟨wb, 0, none⟩), .agg #[.int .i64 13, .int .i64 0, .int .i64 0, .bool false, .slice none 0 0, .string ⟨#[97]⟩]] wr fun e w' => e = .returned (.bool true) ∧ KnSt2 I cF cT w wb 10 w' := by
  have ho : OpOk wr ⟨13, 0, 0, false, [], ⟨#[97]⟩⟩ (.slice none 0 0) := op_ok _ _ _ (.inl ⟨rfl, none, 0, rfl⟩) (by decide) (by decide) (by decide) (by decide) rfl (by decide)
  rcases h.2 with ⟨h1, _⟩ | ⟨_, L, OL, K, O, tb, hO⟩
  · omega
  · refine (kn_move sp hO (by decide) ho rfl).mono ?_
    rintro e w' ⟨he, L', OL', K', O', tb', h1, h2⟩
    exact ⟨he, h.1.trans h2 (Grows.refl _ _), .inr ⟨by omega, L', OL', K', O', tb', OneIs.mono (kn_mv9 ▸ h1) (by omega) (by omega)⟩⟩

theorem KnSt2.done {I : (Nat → Prop) → World → Nat → CopS → Prop} {cF cT : Nat} {w : World} {wb : Nat} {wr : World} (h : KnSt2 I cF cT w wb 10 wr) :
    ∃ L OL K Os tb g cap ao tcap, AllIs I cF cT (knGo w wb) wr wb L OL K Os (fun _ => 10) 10 ∧ L.tbs.length = 1 ∧ Only (knGo w wb) w wr ∧ wr.cell? ⟨wb, 0, none⟩ = some (.slice (some ⟨g, 0, none⟩) 1 cap) ∧ wr.cell? ⟨g, 0, none⟩ = some (.pointer (some ⟨tb, 0, none⟩)) ∧ wr.cell? ⟨tb, 2, none⟩ = some (.slice ao 6 tcap) := by
  rcases h.2 with ⟨h0, _⟩ | ⟨_, L, OL, K, O, tb, hO⟩
  · omega
  · have hl : L.tbs.length = 1 := by rw [hO.tbs]; rfl
    have hG : ∀ b, knG w wb b → knGo w wb b := by
      rintro b (e | e)
      · exact .inl e
      · exact .inr (by omega)
    obtain ⟨⟨av, tv, mv, iv, nv, hLa⟩, hK, hdk⟩ := hO.law
    obtain ⟨g, cap, rfl, hgl, hgk⟩ := law_twin hLa (k := 0) (by rw [hl]; omega)
    have hcell : wr.cell? ⟨wb, 0, none⟩ = some (.slice (some ⟨g, 0, none⟩) L.tbs.length cap) := by rw [cell_of_heap hLa.cells]; rfl
    rw [hl] at hcell
    rw [hO.tbs] at hgk
    obtain ⟨x, r, C, l, av, OT, OX, OR, st, ok, hOb, hfs⟩ := hO.tw
    obtain ⟨ao, tcap, rfl⟩ := st.t.row.form
    have hll : l.length = 6 := by
      have := congrArg List.length hfs
      rw [List.length_map] at this
      exact this
    have hc2 : wr.cell? ⟨tb, 2, none⟩ = some (.slice ao l.length tcap) := by rw [cell_of_heap st.t.cells]; rfl
    rw [hll] at hc2
    exact ⟨L, OL, K, _, tb, g, cap, ao, tcap, hO.all.widen hG, hl, (only_of_below (knW_below w) _).trans (h.1.mono hG) (Grows.refl _ _), hcell, hgk, hc2⟩

set_option maxHeartbeats 8000000 in
set_option maxRecDepth 20000 in
theorem lawKnown2 {I : (Nat → Prop) → World → Nat → CopS → Prop} {cF cT : Nat} (sp : CopseSpec2 I cF cT) {w : World} {wb : Nat} (hl : LawIs (fun b => b = wb) (fun _ => False) w wb ⟨[], [], [], [], [], 0⟩) :
    Calls Tryz.prog 25 #[.pointer (some ⟨wb, 0, none⟩), .int .i64 14] w fun e w' => e = .returned (.bool true) ∧ ∃ L OL K Os, AllIs I cF cT (knGo w wb) w' wb L OL K Os (fun _ => 10) 10 ∧ L.tbs.length = 1 ∧ Only (knGo w wb) w w' := by
  have hwb : wb < w.heap.size := hl.lt wb (.inl rfl)
  have hst0 := (kn2_0 0 rfl).2 (kn_start (I := I) (cF := cF) (cT := cT) hl)
  have hcs : ∀ k wr, KnSt2 I cF cT w wb k wr → wr.heap[w.heap.size + 1 + 1 + 1 + 1]? = some (.cells (knOps w.heap.size) 66 (0, 0)) := fun k wr h => (h.heap hwb (by omega) (by omega)).trans (knW_4 w)
  clear hl
  go_enter Tryz.func25, Tryz.ntmps25
  go_wp2_with fail
  go_loopw [6] (fun i wr => ∃ k : Nat, k ≤ 10 ∧ i = .int .i64 k ∧ KnSt2 I cF cT w wb k wr) (fun i _ => 10 - (intOf i).toNat)
  case atStart => exact ⟨0, by omega, rfl, hst0⟩
  case round =>
    obtain ⟨k, hk, rfl, hst⟩ := hrel
    have hh := hcs _ _ hst
    clear hcs hst0
    have hk10 : k = 0 ∨ k = 1 ∨ k = 2 ∨ k = 3 ∨ k = 4 ∨ k = 5 ∨ k = 6 ∨ k = 7 ∨ k = 8 ∨ k = 9 ∨ k = 10 := by omega
    rcases hk10 with rfl | rfl | rfl | rfl | rfl | rfl | rfl | rfl | rfl | rfl | rfl
    · have c0 : wr.cell? ⟨w.heap.size + 1 + 1 + 1 + 1, 0, none⟩ = some (.int .i64 1) := by rw [cell_of_heap hh]; rfl
      have c1 : wr.cell? ⟨w.heap.size + 1 + 1 + 1 + 1, 1, none⟩ = some (.int .i64 0) := by rw [cell_of_heap hh]; rfl
      have c2 : wr.cell? ⟨w.heap.size + 1 + 1 + 1 + 1, 2, none⟩ = some (.int .i64 300) := by rw [cell_of_heap hh]; rfl
      have c3 : wr.cell? ⟨w.heap.size + 1 + 1 + 1 + 1, 3, none⟩ = some (.bool false) := by rw [cell_of_heap hh]; rfl
      have c4 : wr.cell? ⟨w.heap.size + 1 + 1 + 1 + 1, 4, none⟩ = some (.slice none 0 0) := by rw [cell_of_heap hh]; rfl
      have c5 : wr.cell? ⟨w.heap.size + 1 + 1 + 1 + 1, 5, none⟩ = some (.string ⟨#[]⟩) := by rw [cell_of_heap hh]; rfl
      clear hh
      have hp := kn_play0 sp.b ((kn2_0 0 rfl).1 hst) hwb
      go_wp2_with (first | (go_at_call 26; refine hp.mono ?_; rintro e w9 ⟨rfl, hst9⟩))
      go_roundw
      case rel => exact ⟨1, by omega, rfl, (kn2_0 1 rfl).2 hst9⟩
      case measure => simp [intOf]
    · have c0 : wr.cell? ⟨w.heap.size + 1 + 1 + 1 + 1, 6, none⟩ = some (.int .i64 2) := by rw [cell_of_heap hh]; rfl
      have c1 : wr.cell? ⟨w.heap.size + 1 + 1 + 1 + 1, 7, none⟩ = some (.int .i64 0) := by rw [cell_of_heap hh]; rfl
      have c2 : wr.cell? ⟨w.heap.size + 1 + 1 + 1 + 1, 8, none⟩ = some (.int .i64 0) := by rw [cell_of_heap hh]; rfl
      have c3 : wr.cell? ⟨w.heap.size + 1 + 1 + 1 + 1, 9, none⟩ = some (.bool false) := by rw [cell_of_heap hh]; rfl
      have c4 : wr.cell? ⟨w.heap.size + 1 + 1 + 1 + 1, 10, none⟩ = some (.slice none 0 0) := by rw [cell_of_heap hh]; rfl
      have c5 : wr.cell? ⟨w.heap.size + 1 + 1 + 1 + 1, 11, none⟩ = some (.string ⟨#[97]⟩) := by rw [cell_of_heap hh]; rfl
      clear hh
      have hp := kn_play1 sp.b ((kn2_0 1 rfl).1 hst) hwb
      go_wp2_with (first | (go_at_call 26; refine hp.mono ?_; rintro e w9 ⟨rfl, hst9⟩))
      go_roundw
      case rel => exact ⟨2, by omega, rfl, (kn2_0 2 rfl).2 hst9⟩
      case measure => simp [intOf]
    · have c0 : wr.cell? ⟨w.heap.size + 1 + 1 + 1 + 1, 12, none⟩ = some (.int .i64 2) := by rw [cell_of_heap hh]; rfl
      have c1 : wr.cell? ⟨w.heap.size + 1 + 1 + 1 + 1, 13, none⟩ = some (.int .i64 0) := by rw [cell_of_heap hh]; rfl
      have c2 : wr.cell? ⟨w.heap.size + 1 + 1 + 1 + 1, 14, none⟩ = some (.int .i64 0) := by rw [cell_of_heap hh]; rfl
      have c3 : wr.cell? ⟨w.heap.size + 1 + 1 + 1 + 1, 15, none⟩ = some (.bool false) := by rw [cell_of_heap hh]; rfl
      have c4 : wr.cell? ⟨w.heap.size + 1 + 1 + 1 + 1, 16, none⟩ = some (.slice none 0 0) := by rw [cell_of_heap hh]; rfl
      have c5 : wr.cell? ⟨w.heap.size + 1 + 1 + 1 + 1, 17, none⟩ = some (.string ⟨#[98]⟩) := by rw [cell_of_heap hh]; rfl
      clear hh
      have hp := kn_play2 sp.b ((kn2_0 2 rfl).1 hst) hwb
      go_wp2_with (first | (go_at_call 26; refine hp.mono ?_; rintro e w9 ⟨rfl, hst9⟩))
      go_roundw
      case rel => exact ⟨3, by omega, rfl, (kn2_0 3 rfl).2 hst9⟩
      case measure => simp [intOf]
    · have c0 : wr.cell? ⟨w.heap.size + 1 + 1 + 1 + 1, 18, none⟩ = some (.int .i64 4) := by rw [cell_of_heap hh]; rfl
      have c1 : wr.cell? ⟨w.heap.size + 1 + 1 + 1 + 1, 19, none⟩ = some (.int .i64 0) := by rw [cell_of_heap hh]; rfl
      have c2 : wr.cell? ⟨w.heap.size + 1 + 1 + 1 + 1, 20, none⟩ = some (.int .i64 0) := by rw [cell_of_heap hh]; rfl
      have c3 : wr.cell? ⟨w.heap.size + 1 + 1 + 1 + 1, 21, none⟩ = some (.bool false) := by rw [cell_of_heap hh]; rfl
      have c4 : wr.cell? ⟨w.heap.size + 1 + 1 + 1 + 1, 22, none⟩ = some (.slice (some ⟨w.heap.size, 0, none⟩) 3 3) := by rw [cell_of_heap hh]; rfl
      have c5 : wr.cell? ⟨w.heap.size + 1 + 1 + 1 + 1, 23, none⟩ = some (.string ⟨#[]⟩) := by rw [cell_of_heap hh]; rfl
      clear hh
      have hp := kn_play3 sp.b ((kn2_0 3 rfl).1 hst) hwb
      go_wp2_with (first | (go_at_call 26; refine hp.mono ?_; rintro e w9 ⟨rfl, hst9⟩))
      go_roundw
      case rel => exact ⟨4, by omega, rfl, (kn2_0 4 rfl).2 hst9⟩
      case measure => simp [intOf]
    · have c0 : wr.cell? ⟨w.heap.size + 1 + 1 + 1 + 1, 24, none⟩ = some (.int .i64 3) := by rw [cell_of_heap hh]; rfl
      have c1 : wr.cell? ⟨w.heap.size + 1 + 1 + 1 + 1, 25, none⟩ = some (.int .i64 0) := by rw [cell_of_heap hh]; rfl
      have c2 : wr.cell? ⟨w.heap.size + 1 + 1 + 1 + 1, 26, none⟩ = some (.int .i64 0) := by rw [cell_of_heap hh]; rfl
      have c3 : wr.cell? ⟨w.heap.size + 1 + 1 + 1 + 1, 27, none⟩ = some (.bool false) := by rw [cell_of_heap hh]; rfl
      have c4 : wr.cell? ⟨w.heap.size + 1 + 1 + 1 + 1, 28, none⟩ = some (.slice (some ⟨w.heap.size + 1, 0, none⟩) 1 1) := by rw [cell_of_heap hh]; rfl
      have c5 : wr.cell? ⟨w.heap.size + 1 + 1 + 1 + 1, 29, none⟩ = some (.string ⟨#[]⟩) := by rw [cell_of_heap hh]; rfl
      clear hh
      have hp := kn_play4 sp.b ((kn2_0 4 rfl).1 hst) hwb
      go_wp2_with (first | (go_at_call 26; refine hp.mono ?_; rintro e w9 ⟨rfl, hst9⟩))
      go_roundw
      case rel => exact ⟨5, by omega, rfl, (kn2_0 5 rfl).2 hst9⟩
      case measure => simp [intOf]
    · have c0 : wr.cell? ⟨w.heap.size + 1 + 1 + 1 + 1, 30, none⟩ = some (.int .i64 8) := by rw [cell_of_heap hh]; rfl
      have c1 : wr.cell? ⟨w.heap.size + 1 + 1 + 1 + 1, 31, none⟩ = some (.int .i64 0) := by rw [cell_of_heap hh]; rfl
      have c2 : wr.cell? ⟨w.heap.size + 1 + 1 + 1 + 1, 32, none⟩ = some (.int .i64 0) := by rw [cell_of_heap hh]; rfl
      have c3 : wr.cell? ⟨w.heap.size + 1 + 1 + 1 + 1, 33, none⟩ = some (.bool false) := by rw [cell_of_heap hh]; rfl
      have c4 : wr.cell? ⟨w.heap.size + 1 + 1 + 1 + 1, 34, none⟩ = some (.slice (some ⟨w.heap.size + 1 + 1, 0, none⟩) 3 3) := by rw [cell_of_heap hh]; rfl
      have c5 : wr.cell? ⟨w.heap.size + 1 + 1 + 1 + 1, 35, none⟩ = some (.string ⟨#[]⟩) := by rw [cell_of_heap hh]; rfl
      clear hh
      have hp := kn_play5 sp.b ((kn2_0 5 rfl).1 hst) hwb
      go_wp2_with (first | (go_at_call 26; refine hp.mono ?_; rintro e w9 ⟨rfl, hst9⟩))
      go_roundw
      case rel => exact ⟨6, by omega, rfl, (kn2_0 6 rfl).2 hst9⟩
      case measure => simp [intOf]
    · have c0 : wr.cell? ⟨w.heap.size + 1 + 1 + 1 + 1, 36, none⟩ = some (.int .i64 13) := by rw [cell_of_heap hh]; rfl
      have c1 : wr.cell? ⟨w.heap.size + 1 + 1 + 1 + 1, 37, none⟩ = some (.int .i64 0) := by rw [cell_of_heap hh]; rfl
      have c2 : wr.cell? ⟨w.heap.size + 1 + 1 + 1 + 1, 38, none⟩ = some (.int .i64 0) := by rw [cell_of_heap hh]; rfl
      have c3 : wr.cell? ⟨w.heap.size + 1 + 1 + 1 + 1, 39, none⟩ = some (.bool false) := by rw [cell_of_heap hh]; rfl
      have c4 : wr.cell? ⟨w.heap.size + 1 + 1 + 1 + 1, 40, none⟩ = some (.slice none 0 0) := by rw [cell_of_heap hh]; rfl
      have c5 : wr.cell? ⟨w.heap.size + 1 + 1 + 1 + 1, 41, none⟩ = some (.string ⟨#[98]⟩) := by rw [cell_of_heap hh]; rfl
      clear hh
      have hp := kn_play6 sp hst hwb
      go_wp2_with (first | (go_at_call 26; refine hp.mono ?_; rintro e w9 ⟨rfl, hst9⟩))
      go_roundw
      case rel => exact ⟨7, by omega, rfl, hst9⟩
      case measure => simp [intOf]
    · have c0 : wr.cell? ⟨w.heap.size + 1 + 1 + 1 + 1, 42, none⟩ = some (.int .i64 11) := by rw [cell_of_heap hh]; rfl
      have c1 : wr.cell? ⟨w.heap.size + 1 + 1 + 1 + 1, 43, none⟩ = some (.int .i64 0) := by rw [cell_of_heap hh]; rfl
      have c2 : wr.cell? ⟨w.heap.size + 1 + 1 + 1 + 1, 44, none⟩ = some (.int .i64 0) := by rw [cell_of_heap hh]; rfl
      have c3 : wr.cell? ⟨w.heap.size + 1 + 1 + 1 + 1, 45, none⟩ = some (.bool false) := by rw [cell_of_heap hh]; rfl
      have c4 : wr.cell? ⟨w.heap.size + 1 + 1 + 1 + 1, 46, none⟩ = some (.slice none 0 0) := by rw [cell_of_heap hh]; rfl
      have c5 : wr.cell? ⟨w.heap.size + 1 + 1 + 1 + 1, 47, none⟩ = some (.string ⟨#[]⟩) := by rw [cell_of_heap hh]; rfl
      clear hh
      have hp := kn_play7 sp hst hwb
      go_wp2_with (first | (go_at_call 26; refine hp.mono ?_; rintro e w9 ⟨rfl, hst9⟩))
      go_roundw
      case rel => exact ⟨8, by omega, rfl, hst9⟩
      case measure => simp [intOf]
    · have c0 : wr.cell? ⟨w.heap.size + 1 + 1 + 1 + 1, 48, none⟩ = some (.int .i64 15) := by rw [cell_of_heap hh]; rfl
      have c1 : wr.cell? ⟨w.heap.size + 1 + 1 + 1 + 1, 49, none⟩ = some (.int .i64 0) := by rw [cell_of_heap hh]; rfl
      have c2 : wr.cell? ⟨w.heap.size + 1 + 1 + 1 + 1, 50, none⟩ = some (.int .i64 0) := by rw [cell_of_heap hh]; rfl
      have c3 : wr.cell? ⟨w.heap.size + 1 + 1 + 1 + 1, 51, none⟩ = some (.bool false) := by rw [cell_of_heap hh]; rfl
      have c4 : wr.cell? ⟨w.heap.size + 1 + 1 + 1 + 1, 52, none⟩ = some (.slice (some ⟨w.heap.size + 1 + 1 + 1, 0, none⟩) 2 2) := by rw [cell_of_heap hh]; rfl
      have c5 : wr.cell? ⟨w.heap.size + 1 + 1 + 1 + 1, 53, none⟩ = some (.string ⟨#[]⟩) := by rw [cell_of_heap hh]; rfl
      clear hh
      have hst9 := hst.skip (by decide) rfl rfl
      go_wp2_with fail
      go_roundw
      case rel => exact ⟨9, by omega, rfl, hst9⟩
      case measure => simp [intOf]
    · have c0 : wr.cell? ⟨w.heap.size + 1 + 1 + 1 + 1, 54, none⟩ = some (.int .i64 13) := by rw [cell_of_heap hh]; rfl
      have c1 : wr.cell? ⟨w.heap.size + 1 + 1 + 1 + 1, 55, none⟩ = some (.int .i64 0) := by rw [cell_of_heap hh]; rfl
      have c2 : wr.cell? ⟨w.heap.size + 1 + 1 + 1 + 1, 56, none⟩ = some (.int .i64 0) := by rw [cell_of_heap hh]; rfl
      have c3 : wr.cell? ⟨w.heap.size + 1 + 1 + 1 + 1, 57, none⟩ = some (.bool false) := by rw [cell_of_heap hh]; rfl
      have c4 : wr.cell? ⟨w.heap.size + 1 + 1 + 1 + 1, 58, none⟩ = some (.slice none 0 0) := by rw [cell_of_heap hh]; rfl
      have c5 : wr.cell? ⟨w.heap.size + 1 + 1 + 1 + 1, 59, none⟩ = some (.string ⟨#[97]⟩) := by rw [cell_of_heap hh]; rfl
      clear hh
      have hp := kn_play9 sp hst hwb
      go_wp2_with (first | (go_at_call 26; refine hp.mono ?_; rintro e w9 ⟨rfl, hst9⟩))
      go_roundw
      case rel => exact ⟨10, by omega, rfl, hst9⟩
      case measure => simp [intOf]
    · clear hh
      obtain ⟨L, OL, K, Os, tb, g, cap, ao, tcap, hA, hl1, hon, c0, c1, c2⟩ := hst.done
      go_wp2_with fail
      go_ret
      exact ⟨rfl, L, OL, K, Os, hA, hl1, hon⟩

end Go.Proofs.YtebfmcafmojlaaaGreatDoor

/-
  copselaw: run, Functions.
-/
namespace Go.Proofs.YtebfmcafmojlaaaGreatDoor
open Go.RowKit
set_option linter.unusedSimpArgs false
set_option linter.unusedVariables false

/-- The script: a slice of steps, each with its list. -/
structure Script (w : World) (ao : Option Addr) (ops : List (OpS × Value)) : Prop where
  ok : ∀ p ∈ ops, OpOk w p.1 p.2
  get : ∀ i, i < ops.length → ∃ sb so, ao = some ⟨sb, so, none⟩ ∧ sb < w.heap.size ∧ ∃ p, ops[i]? = some p ∧
    w.cell? ⟨sb, so + i * 6, none⟩ = some (.int .i64 p.1.kind) ∧ w.cell? ⟨sb, so + i * 6 + 1, none⟩ = some (.int .i64 p.1.on) ∧ w.cell? ⟨sb, so + i * 6 + 2, none⟩ = some (.int .i64 p.1.a) ∧
    w.cell? ⟨sb, so + i * 6 + 3, none⟩ = some (.bool p.1.v) ∧ w.cell? ⟨sb, so + i * 6 + 4, none⟩ = some p.2 ∧ w.cell? ⟨sb, so + i * 6 + 5, none⟩ = some (.string p.1.s)

def wBox : Obj := .cells #[.slice none 0 0, .slice none 0 0, .slice none 0 0, .slice none 0 0, .slice none 0 0, .int .i64 0] 63

theorem law_new (w : World) : LawIs (fun b => b = w.heap.size) (fun _ => False) (w.alloc wBox) w.heap.size ⟨[], [], [], [], [], 0⟩ := by
  have hnil : ∀ (t : TypeId), Row (fun b => b = w.heap.size) (w.alloc wBox) t (.slice none 0 0) [] := fun t => ⟨World.ownsRow_nil _ _ _ _, fun k hk => by simp [Value.ownBlock] at hk⟩
  refine ⟨⟨_, _, _, _, _, ⟨?_, rfl, heap_alloc_new w _, hnil _, hnil _, hnil _, hnil _, hnil _⟩⟩, ⟨?_, rfl, rfl, ?_, ?_⟩, ?_⟩
  · intro b hb
    have : (w.alloc wBox).heap.size = w.heap.size + 1 := by simp
    omega
  · intro b hb; exact absurd hb (fun h => h)
  · intro k hk; simp at hk
  · intro k hk; simp at hk
  · intro b _ hb; exact hb

def runG (w : World) : Nat → Prop := fun b => w.heap.size ≤ b
def RunSt (I : (Nat → Prop) → World → Nat → CopS → Prop) (cF cT : Nat) (w : World) (k : Nat) (wr : World) : Prop :=
  ∃ L OL K Os, AllIs I cF cT (runG w) wr w.heap.size L OL K Os (fun _ => 10 + k) (10 + k) ∧ L.tbs.length ≤ 1 + k ∧ Below w.heap.size w wr
def RunTl (I : (Nat → Prop) → World → Nat → CopS → Prop) (cF cT : Nat) (w : World) (tbs : List Nat) (n i : Nat) (wr : World) : Prop :=
  ∃ L OL K Os, AllIs I cF cT (runG w) wr w.heap.size L OL K Os (fun j => if j < i then 10 + n + 3000 else 10 + n) (10 + n + 40 * i) ∧ L.tbs = tbs ∧ Below w.heap.size w wr

theorem only_run {w wr wr' : World} (h : Below w.heap.size w wr) (ho : Only (runG w) wr wr') : Below w.heap.size w wr' :=
  h.trans (only_below ho (fun b hb => hb) h.size)

theorem run_start {I : (Nat → Prop) → World → Nat → CopS → Prop} {cF cT : Nat} {w wr : World} {L : LawS} {OL K : Nat → Prop} {Os : Nat → Nat → Prop} (h : AllIs I cF cT (knGo (w.alloc wBox) w.heap.size) wr w.heap.size L OL K Os (fun _ => 10) 10) (hl : L.tbs.length = 1) (ho : Only (knGo (w.alloc wBox) w.heap.size) (w.alloc wBox) wr) : RunSt I cF cT w 0 wr := by
  have hsz : (w.alloc wBox).heap.size = w.heap.size + 1 := by simp
  have hG : ∀ b, knGo (w.alloc wBox) w.heap.size b → runG w b := by
    rintro b (e | e)
    · exact Nat.le_of_eq e.symm
    · unfold runG; omega
  exact ⟨L, OL, K, Os, h.widen hG, by omega, only_run ((Below.refl _ _).alloc (Nat.le_refl _) _) (ho.mono hG)⟩

theorem run_holds {I : (Nat → Prop) → World → Nat → CopS → Prop} {cF cT : Nat} (sp : CopseSpec I cF cT) {w wr : World} {k : Nat} (h : RunSt I cF cT w k wr) (hk : k ≤ 200001) :
    Calls Tryz.prog 27 #[.pointer (some ⟨w.heap.size, 0, none⟩)] wr fun e w' => e = .returned (.bool true) ∧ RunSt I cF cT w k w' := by
  obtain ⟨L, OL, K, Os, hA, hl, hb⟩ := h
  obtain ⟨⟨av, tv, mv, iv, nv, hLa⟩, hK, hdk⟩ := id hA.law
  have hmt := hA.mt
  have hmi := hA.mi
  refine (lawHolds hLa hK (by omega) (by omega)).mono ?_
  rintro e w' ⟨he, hb'⟩
  exact ⟨he, L, OL, K, Os, hA.below sp hb', hl, hb.trans (hb'.mono hb.size)⟩

theorem RunSt.next {I : (Nat → Prop) → World → Nat → CopS → Prop} {cF cT : Nat} {w wr : World} {k : Nat} (h : RunSt I cF cT w k wr) : RunSt I cF cT w (k + 1) wr := by
  obtain ⟨L, OL, K, Os, hA, hl, hb⟩ := h
  exact ⟨L, OL, K, Os, hA.mono (fun _ => by omega) (by omega), by omega, hb⟩

theorem RunSt.tell {I : (Nat → Prop) → World → Nat → CopS → Prop} {cF cT : Nat} {w wr : World} {k : Nat} (h : RunSt I cF cT w k wr) : ∃ tbs : List Nat, tbs.length ≤ 1 + k ∧ RunTl I cF cT w tbs k 0 wr := by
  obtain ⟨L, OL, K, Os, hA, hl, hb⟩ := h
  exact ⟨L.tbs, hl, L, OL, K, Os, hA.mono (fun j => by simp) (by omega), rfl, hb⟩

theorem RunTl.len {I : (Nat → Prop) → World → Nat → CopS → Prop} {cF cT : Nat} {w wr : World} {tbs : List Nat} {n i : Nat} (h : RunTl I cF cT w tbs n i wr) : ∃ (ao : Option Addr) (cap : Nat), wr.cell? ⟨w.heap.size, 0, none⟩ = some (.slice ao tbs.length cap) := by
  obtain ⟨L, OL, K, Os, hA, hl, hb⟩ := h
  obtain ⟨⟨av, tv, mv, iv, nv, hLa⟩, hK, hdk⟩ := hA.law
  obtain ⟨ao, cap, rfl⟩ := owns_form hLa.tbs.1
  refine ⟨ao, cap, ?_⟩
  rw [cell_of_heap hLa.cells, ← hl, List.length_map]
  rfl

theorem run_tells {I : (Nat → Prop) → World → Nat → CopS → Prop} {cF cT : Nat} (sp : CopseSpec I cF cT) {w wr : World} {tbs : List Nat} {n i : Nat} (h : RunTl I cF cT w tbs n i wr) (hn : n ≤ 200001) (htb : tbs.length ≤ 1 + n) (hi : i < tbs.length) :
    Calls Tryz.prog 28 #[.pointer (some ⟨w.heap.size, 0, none⟩), .int .i64 (i : Int)] wr fun e w' => e = .returned (.bool true) ∧ RunTl I cF cT w tbs n (i + 1) w' := by
  obtain ⟨L, OL, K, Os, hA, hl, hb⟩ := h
  subst hl
  refine (lawTells sp hA (by omega) hi (by rw [if_neg (by omega)]; omega) (by omega)).mono ?_
  rintro e w' ⟨he, L', OL', K', Os', hA', hl', hon⟩
  refine ⟨he, L', OL', K', Os', hA'.mono ?_ (by omega), hl', only_run hb hon⟩
  intro j
  simp only [setN]
  repeat' split
  all_goals omega

end Go.Proofs.YtebfmcafmojlaaaGreatDoor

/-
  copselaw: run, Orders.
-/
namespace Go.Proofs.YtebfmcafmojlaaaGreatDoor
open Go.RowKit
set_option linter.unusedSimpArgs false
set_option linter.unusedVariables false

theorem run_play2 {I : (Nat → Prop) → World → Nat → CopS → Prop} {cF cT : Nat} (sp : CopseSpec2 I cF cT) {w wr : World} {k : Nat} (h : RunSt I cF cT w k wr) (hk : k ≤ 200000) {o : OpS} {fv : Value} (ho : OpOk w o fv) (hkd : o.kind ≤ 14) :
    Calls Tryz.prog 26 #[.pointer (some ⟨w.heap.size, 0, none⟩), .agg #[.int .i64 o.kind, .int .i64 o.on, .int .i64 o.a, .bool o.v, fv, .string o.s]] wr fun e w' => e = .returned (.bool true) ∧ RunSt I cF cT w (k + 1) w' := by
  obtain ⟨L, OL, K, Os, hA, hl, hb⟩ := h
  refine (lawPlays2 sp hA (by omega) (by omega) (by omega) (ho.below hb) hkd).mono ?_
  rintro e w' ⟨he, L', OL', K', Os', hA', hl', hon⟩
  exact ⟨he, L', OL', K', Os', hA'.mono (fun _ => by omega) (by omega), by omega, only_run hb hon⟩

set_option maxHeartbeats 8000000 in
set_option maxRecDepth 20000 in
theorem lawRun2 {I : (Nat → Prop) → World → Nat → CopS → Prop} {cF cT : Nat} (sp : CopseSpec2 I cF cT) {w : World} {ao : Option Addr} {ops : List (OpS × Value)} (hS : Script w ao ops) (hn : ops.length ≤ 200000) (scap : Nat) :
    Calls Tryz.prog 9 #[.slice ao ops.length scap, .int .i64 14] w fun e w' => e = .returned (.bool true) ∧ Below w.heap.size w w' := by
  have hknown := lawKnown2 (I := I) (cF := cF) (cT := cT) sp (law_new w)
  obtain ⟨n, hnn⟩ : ∃ n, n = ops.length := ⟨_, rfl⟩
  rw [← hnn] at hn ⊢
  go_enter Tryz.func9, Tryz.ntmps9
  go_wp2_with (first | (go_at_call 25; refine hknown.mono ?_; rintro e w1 ⟨rfl, L, OL, K, Os, hA, hl1, hon⟩))
  have hst0 := run_start hA hl1 hon
  clear hA hl1 hon hknown
  go_loopw [6, 7] (fun okv i wr => ∃ k : Nat, k ≤ n ∧ i = .int .i64 k ∧ okv = .bool true ∧ RunSt I cF cT w k wr) (fun _ i _ => n - (intOf i).toNat)
  case atStart => exact ⟨0, Nat.zero_le _, rfl, rfl, hst0⟩
  case round =>
    obtain ⟨k, hk, rfl, rfl, hst⟩ := hrel
    clear hst0
    by_cases hkl : k < n
    · obtain ⟨sb, so, hao, hsb, ⟨⟨kd, on, oa, ov, F, os⟩, fv⟩, hp, d0, d1, d2, d3, d4, d5⟩ := hS.get k (by omega)
      have hok := hS.ok _ (List.mem_of_getElem? hp)
      subst hao
      have hbl : Below w.heap.size w wr := by obtain ⟨_, _, _, _, _, _, hb⟩ := hst; exact hb
      dsimp only at d0 d1 d2 d3 d4 d5 hok
      have c0 := (hbl.cell (p := ⟨sb, so + k * 6, none⟩) hsb).trans d0
      have c1 := (hbl.cell (p := ⟨sb, so + k * 6 + 1, none⟩) hsb).trans d1
      have c2 := (hbl.cell (p := ⟨sb, so + k * 6 + 2, none⟩) hsb).trans d2
      have c3 := (hbl.cell (p := ⟨sb, so + k * 6 + 3, none⟩) hsb).trans d3
      have c4 := (hbl.cell (p := ⟨sb, so + k * 6 + 4, none⟩) hsb).trans d4
      have c5 := (hbl.cell (p := ⟨sb, so + k * 6 + 5, none⟩) hsb).trans d5
      clear d0 d1 d2 d3 d4 d5 hp hS
      by_cases hkd : kd ≤ 14
      · have hplay := run_play2 sp hst (by omega) hok hkd
        obtain ⟨fao, fcap, rfl⟩ := reads_form hok.f
        dsimp only at hplay c4
        clear hok
        go_wp2_with (first
          | (go_at_call 26; refine hplay.mono ?_; rintro e w2 ⟨rfl, hst2⟩)
          | (go_at_call 27; refine (run_holds sp.b hst2 (by omega)).mono ?_; rintro e w3 ⟨rfl, hst3⟩))
        go_roundw
        case rel => exact ⟨k + 1, by omega, by go_num, rfl, hst3⟩
        case measure => simp [intOf]; omega
      · have hst2 := hst.next
        clear hok
        go_wp2_with (first
          | (go_at_call 27; refine (run_holds sp.b hst2 (by omega)).mono ?_; rintro e w3 ⟨rfl, hst3⟩))
        go_roundw
        case rel => exact ⟨k + 1, by omega, by go_num, rfl, hst3⟩
        case measure => simp [intOf]; omega
    · clear hS
      obtain ⟨tbs, htb, htl0⟩ := hst.tell
      obtain ⟨m, hm⟩ : ∃ m, m = tbs.length := ⟨_, rfl⟩
      go_wp2_with fail
      obtain ⟨w5, hw5⟩ : ∃ w5, w5 = wr := ⟨_, rfl⟩
      subst hw5
      go_loopw [6, 8] (fun okv i wr => ∃ j : Nat, j ≤ m ∧ i = .int .i64 j ∧ okv = .bool true ∧ RunTl I cF cT w tbs k j wr) (fun _ i _ => m - (intOf i).toNat)
      case atStart => exact ⟨0, Nat.zero_le _, rfl, rfl, htl0⟩
      case round =>
        obtain ⟨j, hj, rfl, rfl, htl⟩ := hrel
        obtain ⟨tao, tcap, hc⟩ := htl.len
        rw [← hm] at hc
        by_cases hjm : j < m
        · have ht := run_tells sp.b htl (by omega) htb (by omega)
          go_wp2_with (first
            | (go_at_call 28; refine ht.mono ?_; rintro e w6 ⟨rfl, htl6⟩))
          go_roundw
          case rel => exact ⟨j + 1, by omega, by go_num, rfl, htl6⟩
          case measure => simp [intOf]; omega
        · go_wp2_with fail
          go_ret
          obtain ⟨_, _, _, _, _, _, hb⟩ := htl
          exact ⟨rfl, hb⟩

set_option maxHeartbeats 1000000 in
theorem lawOrders {I : (Nat → Prop) → World → Nat → CopS → Prop} {cF cT : Nat} (sp : CopseSpec2 I cF cT) {w : World} {ao : Option Addr} {ops : List (OpS × Value)} (hS : Script w ao ops) (hn : ops.length ≤ 200000) (scap : Nat) :
    Calls Tryz.prog 4 #[.slice ao ops.length scap] w fun e w' => e = .returned (.bool true) ∧ Below w.heap.size w w' := by
  have hrun := lawRun2 sp hS hn scap
  clear hS
  go_enter Tryz.func4, Tryz.ntmps4
  go_wp2_with (first | (go_at_call 9; refine hrun.mono ?_; rintro e w1 ⟨rfl, hb⟩))
  go_ret
  exact ⟨rfl, hb⟩

end Go.Proofs.YtebfmcafmojlaaaGreatDoor

