/-
  TWO VARIABLES CHANGE PLACES: a node is turned; the end.
-/
import Derived.Test.YtebfmcafmojlaaaT06
namespace Go.Proofs.Ytebfmcafmojlaaa
set_option linter.unusedSimpArgs false
set_option linter.unusedVariables false

def exy (x y : Nat) : Nat → Nat → Prop := fun v u => v = y ∧ u = x

/-- x at level l, y at the next. -/
structure Gr.Two (G : Gr) (l x y : Nat) : Prop where
  hx : x ∈ G.order
  hy : y ∈ G.order
  ix : G.idx x = l
  iy : G.idx y = l + 1

theorem Gr.Two.ne {G : Gr} {l x y : Nat} (h : G.Two l x y) : x ≠ y := by
  intro e
  have h1 := h.ix
  have h2 := h.iy
  rw [e] at h1
  omega

theorem Gr.Two.ext {G G' : Gr} {l x y : Nat} (h : G.Two l x y) (he : G'.order = G.order) : G'.Two l x y := by
  obtain ⟨a, b, c, d⟩ := h
  unfold Gr.idx at c d
  exact ⟨by rw [he]; exact a, by rw [he]; exact b, by unfold Gr.idx; rw [he]; exact c, by unfold Gr.idx; rw [he]; exact d⟩

theorem hangs_half {G : Gr} {r s u : Nat} (h : r / 2 = s / 2) (hu : u < 6) : hangs (G.tab r) u = hangs (G.tab s) u := by rw [Gr.hangs_tab _ _ hu, Gr.hangs_tab _ _ hu, h]

theorem Gr.Sm.join_new {G : Gr} {l x y : Nat} (k : G.Sm (exy x y)) (two : G.Two l x y) {t e i : Nat} (ht : G.ok t) (he : G.ok e) (hne : t ≠ e) (ft : ∀ u ∈ G.order, G.idx u ≤ l + 1 → hangs (G.tab t) u = false) (fe : ∀ u ∈ G.order, G.idx u ≤ l + 1 → hangs (G.tab e) u = false)
    (hi0 : i ≠ 0) (hi : G.node i = none) (hnew : ∀ j, G.node j ≠ some (joinN x t e)) :
    (G.add i (joinN x t e)).Sm (exy x y) ∧ (G.add i (joinN x t e)).ok (tl (2 * i) t) ∧ (G.add i (joinN x t e)).tab (tl (2 * i) t) = iteT (mask x) (G.tab t) (G.tab e) := by
  have hx6 := k.lt6 x two.hx
  have hok := joinN_ok (v := x) ht he
  have ht2 : (joinN x t e).t / 2 = t / 2 := by show (t - t % 2) / 2 = t / 2; omega
  have he2 : (joinN x t e).e / 2 = e / 2 := by show tl e t / 2 = e / 2; exact tl_half _ _
  have ft' : ∀ u ∈ G.order, G.idx u ≤ l + 1 → hangs (G.tab (joinN x t e).t) u = false := fun u hu h => (hangs_half ht2 (k.lt6 u hu)).trans (ft u hu h)
  have fe' : ∀ u ∈ G.order, G.idx u ≤ l + 1 → hangs (G.tab (joinN x t e).e) u = false := fun u hu h => (hangs_half he2 (k.lt6 u hu)).trans (fe u hu h)
  have hix := two.ix
  have hiy := two.iy
  have td := ft' x two.hx (by omega)
  have ed := fe' x two.hx (by omega)
  have hjne := joinN_ne (v := x) hne
  have hf : ∀ u ∈ G.order, G.idx u ≤ l + 1 → u ≠ x → hangs (iteT (mask x) (G.tab (joinN x t e).t) (G.tab (joinN x t e).e)) u = false := fun u hu h hne => hangs_iteT _ _ _ _ hx6 (k.lt6 u hu) hne (ft' u hu h) (fe' u hu h)
  have hg1 : given (iteT (mask x) (G.tab (joinN x t e).t) (G.tab (joinN x t e).e)) x true = G.tab (joinN x t e).t := by rw [given_join _ _ _ _ hx6 td ed]; simp
  have hg2 : given (iteT (mask x) (G.tab (joinN x t e).t) (G.tab (joinN x t e).e)) x false = G.tab (joinN x t e).e := by rw [given_join _ _ _ _ hx6 td ed]; simp
  have htop : hangs (iteT (mask x) (G.tab (joinN x t e).t) (G.tab (joinN x t e).e)) x = true := by
    rw [hangs_true_iff, hg1, hg2]
    exact fun e => hjne (k.same hok.1 hok.2 e)
  have hadd := k.add (i := i) (n := joinN x t e) hi0 hi two.hx (by show (t - t % 2) % 2 = 0; omega) hok.1 hok.2 hjne td ed (by
      intro u hu hlt _
      have hlt' : G.idx u < G.idx x := hlt
      exact hf u hu (by omega) (fun e => by subst e; omega)) (by
      intro j m hj hs0
      have hs : G.sem j = iteT (mask x) (G.tab (joinN x t e).t) (G.tab (joinN x t e).e) := hs0
      have h1 := k.hangs_top hj
      rw [hs] at h1
      have hm6 := k.v6 hj
      by_cases e1 : m.v = x
      · have q1 := k.given_node hj true
        have q2 := k.given_node hj false
        rw [hs, e1] at q1 q2
        have q1' : G.tab (joinN x t e).t = G.tab m.t := hg1.symm.trans (by simpa using q1)
        have q2' : G.tab (joinN x t e).e = G.tab m.e := hg2.symm.trans (by simpa using q2)
        have r1 := k.same hok.1 (k.tok hj) q1'
        have r2 := k.same hok.2 (k.eok hj) q2'
        apply hnew j
        rw [hj]
        obtain ⟨mv, mt, me⟩ := m
        simp only at e1 r1 r2
        subst e1
        have : joinN mv t e = ⟨mv, (joinN mv t e).t, (joinN mv t e).e⟩ := rfl
        rw [this, r1, r2]
      · by_cases e2 : G.idx m.v ≤ l + 1
        · rw [hf m.v (k.var hj) e2 e1] at h1; cases h1
        · have h2 := k.up hj x two.hx (by omega) (by
            rintro ⟨e3, _⟩
            rw [e3] at e2
            omega)
          rw [hs] at h2
          rw [show hangs (iteT (mask x) (G.tab (joinN x t e).t) (G.tab (joinN x t e).e)) x = true from htop] at h2
          cases h2)
  have hxx := G.add_ext (n := joinN x t e) hi0 hi
  have hn3 : (G.add i (joinN x t e)).node i = some (joinN x t e) := Gr.add_node _ _ _
  have hh : tl (2 * i) t / 2 = i := by rw [tl_half]; omega
  refine ⟨hadd, .inr ⟨_, by rw [hh]; exact hn3⟩, ?_⟩
  rw [Gr.tab_tl]
  have e1 : (G.add i (joinN x t e)).tab (2 * i) = (G.add i (joinN x t e)).sem i := by unfold Gr.tab; rw [if_pos (by omega)]; congr 1; omega
  rw [e1, hadd.is hn3, ← hxx.tab ht, ← hxx.tab he]
  exact joinN_tab _ x t e

theorem Gr.Sm.join_found {G : Gr} {ex : Nat → Nat → Prop} (k : G.Sm ex) {v t e i : Nat} (hi : G.node i = some (joinN v t e)) : G.ok (tl (2 * i) t) ∧ G.tab (tl (2 * i) t) = iteT (mask v) (G.tab t) (G.tab e) := by
  have hh : tl (2 * i) t / 2 = i := by rw [tl_half]; omega
  refine ⟨.inr ⟨_, by rw [hh]; exact hi⟩, ?_⟩
  rw [Gr.tab_tl]
  have e1 : G.tab (2 * i) = G.sem i := by unfold Gr.tab; rw [if_pos (by omega)]; congr 1; omega
  rw [e1, k.is hi]
  exact joinN_tab G v t e

/-- A part of a node of x hangs on none of the variables up to x. -/
theorem Gr.Sm.kid_free {G : Gr} {l x y : Nat} (k : G.Sm (exy x y)) (two : G.Two l x y) {i : Nat} {n : Nd} (hn : G.node i = some n) (hx : n.v = x) {c : Nat} (hc : c = n.t ∨ c = n.e) : G.ok c ∧ ∀ u ∈ G.order, G.idx u ≤ l → hangs (G.tab c) u = false := by
  have hix := two.ix
  refine ⟨by rcases hc with rfl | rfl; exact k.tok hn; exact k.eok hn, ?_⟩
  intro u hu hle
  by_cases e : u = x
  · subst e
    rw [← hx]
    rcases hc with rfl | rfl
    · exact k.td hn
    · exact k.ed hn
  · have hlt : G.idx u < G.idx n.v := by
      rw [hx, hix]
      exact Nat.lt_of_le_of_ne hle (fun e2 => e (idxOf_inj hu (by show G.idx u = G.idx x; omega)))
    have h1 := k.up hn u hu hlt (by
      rintro ⟨e2, _⟩
      exact two.ne (hx.symm.trans e2))
    cases hh : hangs (G.tab c) u
    · rfl
    · rw [k.kid hn (k.lt6 u hu) (by rcases hc with rfl | rfl; exact .inl hh; exact .inr hh)] at h1
      cases h1

/-- Where its node does not ask y, it does not hang on y. -/
theorem Gr.Sm.kid_not {G : Gr} {l x y : Nat} (k : G.Sm (exy x y)) (two : G.Two l x y) {c : Nat} (hc : G.ok c) (hf : ∀ u ∈ G.order, G.idx u ≤ l → hangs (G.tab c) u = false) (hl : G.lev c ≠ l + 1) : hangs (G.tab c) y = false := by
  have hy6 := k.lt6 y two.hy
  rcases hc with e | ⟨m, e⟩
  · rw [Gr.hangs_tab _ _ hy6, e, k.sem0]
    exact hangs_ones y hy6
  · rw [Gr.lev_node e] at hl
    have h1 : ¬ G.idx m.v ≤ l := by
      intro h
      have := hf m.v (k.var e) h
      rw [Gr.hangs_tab _ _ (k.v6 e), k.hangs_top e] at this
      cases this
    rw [Gr.hangs_tab _ _ hy6]
    refine k.up e y two.hy (by rw [two.iy]; omega) ?_
    rintro ⟨_, e2⟩
    exact two.ne e2.symm

theorem Gr.Sm.part {G : Gr} {l x y : Nat} (k : G.Sm (exy x y)) (two : G.Two l x y) {c : Nat} (hc : G.ok c) (hf : ∀ u ∈ G.order, G.idx u ≤ l → hangs (G.tab c) u = false) (b : Bool) :
    G.ok (G.br c (l + 1) b) ∧ G.tab (G.br c (l + 1) b) = given (G.tab c) y b ∧ ∀ u ∈ G.order, G.idx u ≤ l + 1 → hangs (G.tab (G.br c (l + 1) b)) u = false := by
  have hy6 := k.lt6 y two.hy
  have main : G.ok (G.br c (l + 1) b) ∧ G.tab (G.br c (l + 1) b) = given (G.tab c) y b := by
    by_cases hl : G.lev c = l + 1
    · obtain ⟨m, hm⟩ : ∃ m, G.node (c / 2) = some m := by
        rcases hc with e | h
        · unfold Gr.lev at hl
          rw [e, k.zero] at hl
          have h1 : G.idx y < G.order.length := List.idxOf_lt_length_of_mem two.hy
          have := two.iy
          have hl' : G.order.length = l + 1 := hl
          omega
        · exact h
      have hlm := Gr.lev_node hm
      have hmv : m.v = y := idxOf_inj (k.var hm) (by show G.idx m.v = G.idx y; rw [two.iy]; omega)
      have hbr : G.br c (l + 1) b = tl (if b then m.t else m.e) c := by
        unfold Gr.br
        rw [hm]
        simp only
        rw [if_pos (by omega)]
      rw [hbr]
      refine ⟨by rw [Gr.ok_tl]; cases b; exact k.eok hm; exact k.tok hm, ?_⟩
      rw [G.tab_tl]
      have hg := k.given_node hm b
      have hsel : G.tab (if b then m.t else m.e) = if b then G.tab m.t else G.tab m.e := by cases b <;> rfl
      rw [hmv] at hg
      rw [hsel, ← hg]
      unfold Gr.tab
      split
      · rfl
      · rw [given_not _ _ _ hy6]
    · have hbr : G.br c (l + 1) b = c := by
        unfold Gr.br
        split
        · rename_i m hm
          rw [Gr.lev_node hm] at hl
          rw [if_neg hl]
        · rfl
      rw [hbr]
      exact ⟨hc, (given_of_not_hangs _ _ _ hy6 (k.kid_not two hc hf hl)).symm⟩
  refine ⟨main.1, main.2, ?_⟩
  intro u hu hle
  rw [main.2]
  by_cases e : u = y
  · subst e; exact hangs_given_self _ _ _ hy6
  · have h1 : G.idx u ≤ l := by
      have : G.idx u ≠ l + 1 := fun e2 => e (idxOf_inj hu (by show G.idx u = G.idx y; rw [two.iy]; exact e2))
      omega
    cases hh : hangs (given (G.tab c) y b) u
    · rfl
    · have := hangs_given _ _ _ _ hy6 (k.lt6 u hu) hh
      rw [hf u hu h1] at this
      cases this

theorem setb63 (v : Nat) (h : v < 6) : setb 63 v true = 63 := by
  have : ∀ v : Fin 6, setb 63 v.1 true = 63 := by decide
  exact this ⟨v, h⟩

theorem Gr.Sm.turn {G : Gr} {l x y : Nat} (k : G.Sm (exy x y)) (two : G.Two l x y) {i : Nat} {n : Nd} (hn : G.node i = some n) (hx : n.v = x) (hang : hangs (G.sem i) y = true) {p q : Nat} (hp : G.ok p) (hq : G.ok q) (tp : G.tab p = given (G.sem i) y true) (tq : G.tab q = given (G.sem i) y false) : (G.set i ⟨y, p, q⟩).Sm (exy x y) := by
  have hy6 := k.lt6 y two.hy
  refine k.set hn two.hy ?_ hp hq ?_ ?_ ?_ ?_ ?_
  · have h1 := k.bit hp
    rw [tp, given_bit _ _ _ _ hy6 (by omega), setb63 y hy6, k.b63 hn] at h1
    have := h1.symm
    simpa using this
  · intro e
    have e' : p = q := e
    rw [hangs_true_iff, ← tp, ← tq, e'] at hang
    exact hang rfl
  · show G.sem i = iteT (mask y) (G.tab p) (G.tab q)
    rw [tp, tq, halves _ _ hy6]
  · show hangs (G.tab p) y = false
    rw [tp]; exact hangs_given_self _ _ _ hy6
  · show hangs (G.tab q) y = false
    rw [tq]; exact hangs_given_self _ _ _ hy6
  · intro u hu hlt he
    have hlt' : G.idx u < l + 1 := by rw [← two.iy]; exact hlt
    have hux : u ≠ x := fun e => he ⟨rfl, e⟩
    refine k.up hn u hu ?_ ?_
    · rw [hx, two.ix]
      have : G.idx u ≠ l := fun e2 => hux (idxOf_inj hu (by show G.idx u = G.idx x; rw [two.ix]; exact e2))
      omega
    · rintro ⟨e, _⟩
      exact two.ne (hx.symm.trans e)

/-- A node of x one of whose parts asks y hangs on y. -/
theorem Gr.Sm.asks {G : Gr} {l x y : Nat} (k : G.Sm (exy x y)) (two : G.Two l x y) {i : Nat} {n : Nd} (hn : G.node i = some n) (h : G.lev n.t = l + 1 ∨ G.lev n.e = l + 1) : hangs (G.sem i) y = true := by
  have hy6 := k.lt6 y two.hy
  have hkid : ∀ c, G.ok c → G.lev c = l + 1 → hangs (G.tab c) y = true := by
    intro c hc hl
    obtain ⟨m, hm⟩ : ∃ m, G.node (c / 2) = some m := by
      rcases hc with e | h
      · unfold Gr.lev at hl
        rw [e, k.zero] at hl
        have h1 : G.idx y < G.order.length := List.idxOf_lt_length_of_mem two.hy
        have := two.iy
        have hl' : G.order.length = l + 1 := hl
        omega
      · exact h
    rw [Gr.lev_node hm] at hl
    have hmv : m.v = y := idxOf_inj (k.var hm) (by show G.idx m.v = G.idx y; rw [two.iy]; omega)
    rw [Gr.hangs_tab _ _ hy6, ← hmv]
    exact k.hangs_top hm
  exact k.kid hn hy6 (h.imp (hkid _ (k.tok hn)) (hkid _ (k.eok hn)))

/-- The end: no node of x has a part that asks y. -/
theorem Gr.Sm.swapped {G : Gr} {l x y : Nat} (k : G.Sm (exy x y)) (two : G.Two l x y) (hno : ∀ i n, G.node i = some n → n.v = x → G.lev n.t ≠ l + 1 ∧ G.lev n.e ≠ l + 1)
    (O' : List Nat) (hnd : O'.Nodup) (hmem : ∀ u, u ∈ O' ↔ u ∈ G.order) (hix : O'.idxOf x = l + 1) (hiy : O'.idxOf y = l) (hio : ∀ u ∈ G.order, u ≠ x → u ≠ y → O'.idxOf u = G.idx u) : Gr.Ok { G with order := O' } := by
  apply Gr.Sm.ok
  refine ⟨hnd, fun v hv => k.lt6 v ((hmem v).1 hv), k.zero, k.sem0, fun h => (hmem _).2 (k.var h), k.tev, k.tok, k.eok, k.ne, k.is, k.td, k.ed, ?_, k.si, k.b63, k.nc⟩
  intro i n hn u hu hlt _
  have hn' : G.node i = some n := hn
  have hu' := (hmem u).1 hu
  have hlt' : O'.idxOf u < O'.idxOf n.v := hlt
  have hv' := k.var hn'
  show hangs (G.sem i) u = false
  have two' := two
  obtain ⟨hx, hy, ix, iy⟩ := two'
  have inj : ∀ {a b}, a ∈ G.order → G.idx a = G.idx b → a = b := fun ha h => idxOf_inj ha h
  by_cases e1 : n.v = x
  · by_cases e2 : u = y
    · subst e2
      have hy6 := k.lt6 u hy
      have hk1 := k.kid_free two hn' e1 (c := n.t) (.inl rfl)
      have hk2 := k.kid_free two hn' e1 (c := n.e) (.inr rfl)
      have h1 := k.kid_not two hk1.1 hk1.2 (hno i n hn' e1).1
      have h2 := k.kid_not two hk2.1 hk2.2 (hno i n hn' e1).2
      rw [k.is hn']
      exact hangs_iteT _ _ _ _ (k.v6 hn') hy6 (by rw [e1]; exact fun e => two.ne e.symm) h1 h2
    · rw [e1, hix] at hlt'
      have hux : u ≠ x := by intro e; rw [e, hix] at hlt'; omega
      rw [hio u hu' hux e2] at hlt'
      refine k.up hn' u hu' ?_ (by rintro ⟨a, _⟩; exact two.ne (e1.symm.trans a))
      rw [e1, ix]
      have : G.idx u ≠ l := fun e => hux (inj hu' (by omega))
      omega
  · by_cases e3 : n.v = y
    · rw [e3, hiy] at hlt'
      have hux : u ≠ x := by intro e; rw [e, hix] at hlt'; omega
      have huy : u ≠ y := by intro e; rw [e, hiy] at hlt'; omega
      rw [hio u hu' hux huy] at hlt'
      refine k.up hn' u hu' ?_ (by rintro ⟨_, a⟩; exact hux a)
      rw [e3, iy]; omega
    · rw [hio n.v hv' e1 e3] at hlt'
      have hnl : G.idx n.v ≠ l := fun e => e1 (inj hv' (by omega))
      have hnl1 : G.idx n.v ≠ l + 1 := fun e => e3 (inj hv' (by omega))
      refine k.up hn' u hu' ?_ (by rintro ⟨a, _⟩; exact e3 a)
      by_cases e4 : u = x
      · rw [e4, hix] at hlt'; rw [e4, ix]; omega
      · by_cases e5 : u = y
        · rw [e5, hiy] at hlt'; rw [e5, iy]; omega
        · rw [hio u hu' e4 e5] at hlt'; exact hlt'

end Go.Proofs.Ytebfmcafmojlaaa

