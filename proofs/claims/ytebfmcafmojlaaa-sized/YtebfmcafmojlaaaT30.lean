/-
  copsekeep: made: its state.
-/
import Derived.Deep.CutBlock
import Derived.Test.YtebfmcafmojlaaaT29
import Derived.Test.YtebfmcafmojlaaaT27
namespace Go.Proofs.Ytebfmcafmojlaaa
open Go.RowKit Go.Maps
set_option linter.unusedSimpArgs false
set_option linter.unusedVariables false

theorem owns_take {w : World} {base : Nat} {e : TypeId} {g cap n m : Nat} {xs : List Value} (h : w.ownsRow base e 1 (.slice (some ⟨g, 0, none⟩) n cap) n xs) (hm : m ≤ n) : w.ownsRow base e 1 (.slice (some ⟨g, 0, none⟩) m cap) m (xs.take m) := by
  obtain ⟨hl, h2⟩ := h
  refine ⟨by rw [List.length_take]; omega, ?_⟩
  rcases h2 with ⟨e, _⟩ | ⟨g', cap', cur, e, hb, hg, hn, hc, hs, ht⟩
  · cases e
  · cases e
    refine .inr ⟨g, cap, cur, rfl, hb, hg, by omega, hc, hs, ?_⟩
    rw [← ht, List.take_take]
    congr 1
    omega

/-- While a function is made: the row l, other handles ex; Fl: their functions, but for variables and constants. -/
def MM (O0 : Nat → Prop) (w0 : World) (C0 : CopS) (wb : Nat) (vars nums stay : List Nat) (K : Nat) (Fl : List Tab) (lv : Value) (l ex : List Nat) (wr : World) : Prop :=
  ∃ O C, WoodI O wr wb C vars nums stay K ∧ Only O0 w0 wr ∧ Grows w0 O0 O ∧ (∀ h ∈ stay, C.T h = C0.T h) ∧ wr.ownsRow w0.heap.size 3 1 lv l.length (l.map natv) ∧ (∀ b, lv.ownBlock = some b → ¬ O b) ∧ (∀ h, h ∈ l ∨ h ∈ ex → ∃ f, C.T h = some f ∧ FewOf Fl f)

theorem WoodI.keep {O : Nat → Prop} {w w' : World} {wb : Nat} {C : CopS} {vars nums stay : List Nat} {K : Nat} (h : WoodI O w wb C vars nums stay K) (hs : w.heap.size ≤ w'.heap.size) (hb : ∀ k, O k → w'.heap[k]? = w.heap[k]?) : WoodI O w' wb C vars nums stay K := by
  obtain ⟨x, sv, Oc, hA, hok⟩ := h
  exact ⟨x, sv, Oc, hA.keep hs hb, hok⟩

theorem WoodI.lt {O : Nat → Prop} {w : World} {wb : Nat} {C : CopS} {vars nums stay : List Nat} {K : Nat} (h : WoodI O w wb C vars nums stay K) : ∀ b, O b → b < w.heap.size := by
  obtain ⟨x, sv, Oc, hA, hok⟩ := h
  exact hA.lt

theorem MM.below {O0 : Nat → Prop} {w0 : World} {C0 : CopS} {wb : Nat} {vars nums stay : List Nat} {K : Nat} {Fl : List Tab} {lv : Value} {l ex : List Nat} {wr w' : World} (h : MM O0 w0 C0 wb vars nums stay K Fl lv l ex wr) (hb : Below wr.heap.size wr w') : MM O0 w0 C0 wb vars nums stay K Fl lv l ex w' := by
  obtain ⟨O, C, hI, ho, hg, hst, hrow, hn, hT⟩ := h
  exact ⟨O, C, hI.keep hb.size (fun k hk => hb.block k (hI.lt k hk)), ho.then_below hb, hg, hst, owns_same hrow (fun k hk => hb.block k (hrow.lt k hk).2), hn, hT⟩

theorem few_more {F : List Tab} {f t : Tab} (h : FewOf F f) : FewOf (F ++ [t]) f := by
  rcases h with a | a | a
  · exact .inl a
  · exact .inr (.inl (List.mem_append_left _ a))
  · exact .inr (.inr a)

/-- A function is told. -/
theorem MM.tell {O0 : Nat → Prop} {w0 : World} {C0 : CopS} {wb : Nat} {vars nums stay : List Nat} {K : Nat} {Fl : List Tab} {lv : Value} {l ex : List Nat} {wr : World} (h : MM O0 w0 C0 wb vars nums stay K Fl lv l ex wr) :
    ∃ O C, WoodI O wr wb C vars nums stay K ∧ (∀ h, h ∈ l ∨ h ∈ ex → ∃ f, C.T h = some f) ∧ ∀ t e w1, TellP O wr wb C vars nums stay (K + 1) t e w1 → ∃ r : Nat, e = .returned (.int .i64 (r : Nat)) ∧ MM O0 w0 C0 wb vars nums stay (K + 1) (Fl ++ [t]) lv l (ex ++ [r]) w1 := by
  obtain ⟨O, C, hI, ho, hg, hst, hrow, hn, hT⟩ := h
  refine ⟨O, C, hI, fun h hh => by obtain ⟨f, hf, _⟩ := hT h hh; exact ⟨f, hf⟩, ?_⟩
  rintro t e w1 ⟨r, rfl, C', hext, hr, _, ho1, O', hI', hg'⟩
  have hst' : ∀ h ∈ stay, C'.T h = C0.T h := by
    intro h hh
    obtain ⟨x, sv, Oc, hA, hok⟩ := hI
    obtain ⟨f, hf⟩ := hok.st h hh
    rw [hext h f hf, ← hst h hh, hf]
  refine ⟨r, rfl, O', C', hI', ho.trans ho1 hg, hg.trans hg' ho.size, hst', ?_, ?_, ?_⟩
  · exact owns_same hrow (fun b hb => ho1.block b (hrow.lt b hb).2 (hn b hb))
  · intro b hb hO
    rcases hg' b hO with e | e
    · exact hn b hb e
    · have := (hrow.lt b hb).2; omega
  · intro h hh
    have : (h ∈ l ∨ h ∈ ex) ∨ h = r := by
      rcases hh with a | a
      · exact .inl (.inl a)
      · rcases List.mem_append.1 a with b | b
        · exact .inl (.inr b)
        · exact .inr (by simpa using b)
    rcases this with a | a
    · obtain ⟨f, hf, hF⟩ := hT h a
      exact ⟨f, hext h f hf, few_more hF⟩
    · subst a
      exact ⟨t, hr, .inr (.inl (by simp))⟩

theorem MM.form {O0 : Nat → Prop} {w0 : World} {C0 : CopS} {wb : Nat} {vars nums stay : List Nat} {K : Nat} {Fl : List Tab} {lv : Value} {l ex : List Nat} {wr : World} (h : MM O0 w0 C0 wb vars nums stay K Fl lv l ex wr) (hl : 1 ≤ l.length) :
    ∃ g cap, lv = .slice (some ⟨g, 0, none⟩) l.length cap ∧ l.length ≤ cap ∧ cap ≤ maxLen := by
  obtain ⟨O, C, hI, ho, hg, hst, hrow, hn, hT⟩ := h
  rcases hrow.2 with ⟨_, e⟩ | ⟨g, cap, cur, e, _, _, h1, h2, _⟩
  · omega
  · exact ⟨g, cap, e, h1, h2⟩

theorem MM.cells {O0 : Nat → Prop} {w0 : World} {C0 : CopS} {wb : Nat} {vars nums stay : List Nat} {K : Nat} {Fl : List Tab} {g n cap : Nat} {l ex : List Nat} {wr : World} (h : MM O0 w0 C0 wb vars nums stay K Fl (.slice (some ⟨g, 0, none⟩) n cap) l ex wr) (hn' : n = l.length) :
    (∀ i, i < l.length → wr.cell? ⟨g, i, none⟩ = some (.int .i64 (l.getD i 0 : Nat))) ∧ (∀ i, wr.frozen? ⟨g, i, none⟩ = false) ∧ g < wr.heap.size := by
  subst hn'
  obtain ⟨O, C, hI, ho, hg, hst, hrow, hn, hT⟩ := h
  refine ⟨fun i hi => ?_, fun i => hrow.frozenAt i, (hrow.lt g rfl).2⟩
  rw [hrow.cellAt i (by omega), List.getElem?_map, List.getD_eq_getElem?_getD, List.getElem?_eq_getElem hi]
  rfl

theorem MM.owns {O0 : Nat → Prop} {w0 : World} {C0 : CopS} {wb : Nat} {vars nums stay : List Nat} {K : Nat} {Fl : List Tab} {lv : Value} {l ex : List Nat} {wr : World} (h : MM O0 w0 C0 wb vars nums stay K Fl lv l ex wr) : wr.ownsRow w0.heap.size 3 1 lv l.length (l.map natv) ∧ w0.heap.size ≤ wr.heap.size := by
  obtain ⟨O, C, hI, ho, hg, hst, hrow, hn, hT⟩ := h
  exact ⟨hrow, ho.size⟩

theorem MM.wood {O0 : Nat → Prop} {w0 : World} {C0 : CopS} {wb : Nat} {vars nums stay : List Nat} {K : Nat} {Fl : List Tab} {lv : Value} {l ex : List Nat} {wr : World} (h : MM O0 w0 C0 wb vars nums stay K Fl lv l ex wr) : (∀ i, i < 6 → wr.cell? ⟨wb, 1 + i, none⟩ = some (.int .i64 (vars.getD i 0 : Nat))) ∧ ∀ i, i < 6 → MM O0 w0 C0 wb vars nums stay K Fl lv l (ex ++ [vars.getD i 0]) wr := by
  obtain ⟨O, C, hI, ho, hg, hst, hrow, hn, hT⟩ := h
  have hI' := hI
  obtain ⟨x, sv, Oc, hA, hok⟩ := hI
  refine ⟨hA.c.2.1, fun i hi => ⟨O, C, hI', ho, hg, hst, hrow, hn, ?_⟩⟩
  intro h hh
  have : (h ∈ l ∨ h ∈ ex) ∨ h = vars.getD i 0 := by
    rcases hh with a | a
    · exact .inl (.inl a)
    · rcases List.mem_append.1 a with b | b
      · exact .inl (.inr b)
      · exact .inr (by simpa using b)
  rcases this with a | a
  · exact hT h a
  · subst a
    exact ⟨_, hok.vT i hi, .inl ⟨_, hok.n6 i hi, rfl⟩⟩

/-- append(l[:m], r). -/
theorem MM.appended {O0 : Nat → Prop} {w0 : World} {C0 : CopS} {wb : Nat} {vars nums stay : List Nat} {K : Nat} {Fl : List Tab} {g n cap : Nat} {l ex : List Nat} {wr w2 : World} {o : Obj} (h : MM O0 w0 C0 wb vars nums stay K Fl (.slice (some ⟨g, 0, none⟩) n cap) l ex wr) {m r : Nat} (hm : m ≤ l.length) (hr : r ∈ l ∨ r ∈ ex) {v' : Value}
    (ho : w2.ownsRow w0.heap.size 3 1 v' (m + 1) ((l.map natv).take m ++ [natv r])) (hgr : (wr.alloc o).grownBy w2 (Value.slice (some ⟨g, 0, none⟩) m cap).ownBlock) (hp : Placed (wr.alloc o) (.slice (some ⟨g, 0, none⟩) m cap) v') :
    ∃ ao cap', v' = .slice ao (l.take m ++ [r]).length cap' ∧ MM O0 w0 C0 wb vars nums stay K Fl (.slice ao (l.take m ++ [r]).length cap') (l.take m ++ [r]) ex w2 := by
  obtain ⟨O, C, hI, ho0, hg, hst, hrow, hn, hT⟩ := h
  have hlen : (l.take m ++ [r]).length = m + 1 := by rw [List.length_append, List.length_take, Nat.min_eq_left hm]; rfl
  have hng : ¬ O g := hn g rfl
  have hgl : w0.heap.size ≤ g := (hrow.lt g rfl).1
  have hsz := hgr.size
  simp only [World.size_alloc] at hsz
  have hblk : ∀ k, k < wr.heap.size → k ≠ g → w2.heap[k]? = wr.heap[k]? := by
    intro k hk hne
    rw [hgr.block k (by simp; omega) (by simp [Value.ownBlock]; exact hne)]
    exact Below.heap_alloc _ _ _ hk
  obtain ⟨ao, cap', e⟩ := owns_form ho
  subst e
  refine ⟨ao, cap', by rw [hlen], O, C, hI.keep (by omega) (fun k hk => hblk k (hI.lt k hk) (fun e => hng (by rw [← e]; exact hk))), ?_, hg, hst, ?_, ?_, ?_⟩
  · exact (ho0.alloc o).grown hgr (by intro k hk; simp [Value.ownBlock] at hk; omega)
  · rw [hlen, List.map_append, List.map_take]
    exact ho
  · intro b hb hO
    rw [hlen] at hb
    rcases hp b hb with e | e
    · simp [Value.ownBlock] at e
      subst e
      exact hng hO
    · simp only [World.size_alloc] at e
      have := hI.lt b hO
      omega
  · intro h hh
    apply hT h
    rcases hh with a | a
    · rcases List.mem_append.1 a with b | b
      · exact .inl (List.mem_of_mem_take b)
      · have : h = r := by simpa using b
        subst this
        exact hr
    · exact .inr a

/-- l[i] = r. -/
theorem MM.set {O0 : Nat → Prop} {w0 : World} {C0 : CopS} {wb : Nat} {vars nums stay : List Nat} {K : Nat} {Fl : List Tab} {g n cap : Nat} {l ex : List Nat} {wr : World} (h : MM O0 w0 C0 wb vars nums stay K Fl (.slice (some ⟨g, 0, none⟩) n cap) l ex wr) {i r : Nat} (hr : r ∈ l ∨ r ∈ ex) (hn' : n = l.length) :
    MM O0 w0 C0 wb vars nums stay K Fl (.slice (some ⟨g, 0, none⟩) n cap) (l.set i r) ex (wr.setCell ⟨g, i, none⟩ (.int .i64 (r : Nat))) := by
  subst hn'
  obtain ⟨O, C, hI, ho0, hg, hst, hrow, hn, hT⟩ := h
  have hng : ¬ O g := hn g rfl
  have hgl : w0.heap.size ≤ g := (hrow.lt g rfl).1
  refine ⟨O, C, hI.keep (by simp [World.setCell]) (fun k hk => Below.heap_setCell _ _ _ _ (fun e => hng (by subst e; exact hk))), ho0.setCell (p := ⟨g, i, none⟩) (.inr hgl) _, hg, hst, ?_, hn, ?_⟩
  · have := (hrow.stored i (.int .i64 (r : Nat))).1
    rw [List.map_set, List.length_set]
    exact this
  · intro h hh
    rcases hh with a | a
    · rcases List.mem_or_eq_of_mem_set a with b | b
      · exact hT h (.inl b)
      · subst b; exact hT h hr
    · exact hT h (.inr a)

end Go.Proofs.Ytebfmcafmojlaaa

/-
  copsekeep: made: its calls.
-/
namespace Go.Proofs.Ytebfmcafmojlaaa
open Go.RowKit Go.Maps
set_option linter.unusedSimpArgs false
set_option linter.unusedVariables false

def ToldM (O0 : Nat → Prop) (w0 : World) (C0 : CopS) (wb : Nat) (vars nums stay : List Nat) (K : Nat) (Fl : List Tab) (lv : Value) (l ex : List Nat) (e : Ending) (w1 : World) : Prop :=
  ∃ (r : Nat) (t : Tab), e = .returned (.int .i64 (r : Nat)) ∧ MM O0 w0 C0 wb vars nums stay (K + 1) (Fl ++ [t]) lv l (ex ++ [r]) w1

theorem MM.ite {O0 : Nat → Prop} {w0 : World} {C0 : CopS} {wb : Nat} {vars nums stay : List Nat} {K : Nat} {Fl : List Tab} {lv : Value} {l ex : List Nat} {wr : World} (h : MM O0 w0 C0 wb vars nums stay K Fl lv l ex wr) (hK : K ≤ 18) (a b c : Nat) (ha : a ∈ l ∨ a ∈ ex) (hb : b ∈ l ∨ b ∈ ex) (hc : c ∈ l ∨ c ∈ ex) :
    Calls Try.prog 12 #[.pointer (some ⟨wb, 0, none⟩), .int .i64 a, .int .i64 b, .int .i64 c] wr (ToldM O0 w0 C0 wb vars nums stay K Fl lv l ex) := by
  obtain ⟨O, C, hI, hT, ht⟩ := h.tell
  obtain ⟨f, hf⟩ := hT a ha
  obtain ⟨g, hg⟩ := hT b hb
  obtain ⟨d, hd⟩ := hT c hc
  refine (woodIte hI hK a b c f g d hf hg hd).mono ?_
  intro e w1 hp
  obtain ⟨r, h1, h2⟩ := ht _ e w1 hp
  exact ⟨r, _, h1, h2⟩

theorem MM.not {O0 : Nat → Prop} {w0 : World} {C0 : CopS} {wb : Nat} {vars nums stay : List Nat} {K : Nat} {Fl : List Tab} {lv : Value} {l ex : List Nat} {wr : World} (h : MM O0 w0 C0 wb vars nums stay K Fl lv l ex wr) (hK : K ≤ 18) (a : Nat) (ha : a ∈ l ∨ a ∈ ex) :
    Calls Try.prog 9 #[.pointer (some ⟨wb, 0, none⟩), .int .i64 a] wr (ToldM O0 w0 C0 wb vars nums stay K Fl lv l ex) := by
  obtain ⟨O, C, hI, hT, ht⟩ := h.tell
  obtain ⟨f, hf⟩ := hT a ha
  refine (woodNot hI hK a f hf).mono ?_
  intro e w1 hp
  obtain ⟨r, h1, h2⟩ := ht _ e w1 hp
  exact ⟨r, _, h1, h2⟩

theorem MM.and {O0 : Nat → Prop} {w0 : World} {C0 : CopS} {wb : Nat} {vars nums stay : List Nat} {K : Nat} {Fl : List Tab} {lv : Value} {l ex : List Nat} {wr : World} (h : MM O0 w0 C0 wb vars nums stay K Fl lv l ex wr) (hK : K ≤ 18) (a b : Nat) (ha : a ∈ l ∨ a ∈ ex) (hb : b ∈ l ∨ b ∈ ex) :
    Calls Try.prog 7 #[.pointer (some ⟨wb, 0, none⟩), .int .i64 a, .int .i64 b] wr (ToldM O0 w0 C0 wb vars nums stay K Fl lv l ex) := by
  obtain ⟨O, C, hI, hT, ht⟩ := h.tell
  obtain ⟨f, hf⟩ := hT a ha
  obtain ⟨g, hg⟩ := hT b hb
  refine (woodAnd hI hK a b f g hf hg).mono ?_
  intro e w1 hp
  obtain ⟨r, h1, h2⟩ := ht _ e w1 hp
  exact ⟨r, _, h1, h2⟩

theorem MM.or {O0 : Nat → Prop} {w0 : World} {C0 : CopS} {wb : Nat} {vars nums stay : List Nat} {K : Nat} {Fl : List Tab} {lv : Value} {l ex : List Nat} {wr : World} (h : MM O0 w0 C0 wb vars nums stay K Fl lv l ex wr) (hK : K ≤ 18) (a b : Nat) (ha : a ∈ l ∨ a ∈ ex) (hb : b ∈ l ∨ b ∈ ex) :
    Calls Try.prog 10 #[.pointer (some ⟨wb, 0, none⟩), .int .i64 a, .int .i64 b] wr (ToldM O0 w0 C0 wb vars nums stay K Fl lv l ex) := by
  obtain ⟨O, C, hI, hT, ht⟩ := h.tell
  obtain ⟨f, hf⟩ := hT a ha
  obtain ⟨g, hg⟩ := hT b hb
  refine (woodOr hI hK a b f g hf hg).mono ?_
  intro e w1 hp
  obtain ⟨r, h1, h2⟩ := ht _ e w1 hp
  exact ⟨r, _, h1, h2⟩

theorem few_app {F G : List Tab} {f : Tab} (h : FewOf G f) : FewOf (F ++ G) f := by
  rcases h with a | a | a
  · exact .inl a
  · exact .inr (.inl (List.mem_append_right _ a))
  · exact .inr (.inr a)

def stayF (C : CopS) (stay : List Nat) : List Tab := stay.map (fun h => (C.T h).getD 0)
theorem stayF_mem {C : CopS} {stay : List Nat} {h : Nat} {f : Tab} (hh : h ∈ stay) (hf : C.T h = some f) : f ∈ stayF C stay := List.mem_map.2 ⟨h, hh, by rw [hf]; rfl⟩
theorem stayF_len (C : CopS) (stay : List Nat) : (stayF C stay).length = stay.length := List.length_map _

theorem MM.clean {O0 : Nat → Prop} {w0 : World} {C0 : CopS} {wb : Nat} {vars nums stay : List Nat} {K : Nat} {Fl : List Tab} {lv : Value} {l ex : List Nat} {wr : World} (h : MM O0 w0 C0 wb vars nums stay K Fl lv l ex wr) (hs : stay.length ≤ 100) (hl : l.length ≤ 100) :
    Calls Try.prog 11 #[.pointer (some ⟨wb, 0, none⟩), lv] wr fun e w1 => e = .returned (.tuple #[]) ∧ MM O0 w0 C0 wb vars nums stay (stay.length + Fl.length) Fl lv l [] w1 := by
  obtain ⟨O, C, hI, ho, hg, hst, hrow, hn, hT⟩ := h
  have hF : ∀ h, h ∈ stay ∨ h ∈ l → ∀ f, C.T h = some f → FewOf (stayF C stay ++ Fl) f := by
    intro h hh f hf
    rcases hh with a | a
    · exact .inr (.inl (List.mem_append_left _ (stayF_mem a hf)))
    · obtain ⟨f', hf', hF⟩ := hT h (.inl a)
      rw [hf] at hf'
      cases hf'
      exact few_app hF
  have hc := woodClean hI l lv (by have := reads_of_owns hrow; exact this) (fun h hh => by obtain ⟨f, hf, _⟩ := hT h (.inl hh); exact ⟨f, hf⟩) (stayF C stay ++ Fl) hF (by omega)
  rw [List.length_append, stayF_len] at hc
  refine hc.mono ?_
  rintro e w1 ⟨rfl, C', ⟨ho1, O', hI', hg'⟩, hback, hsame⟩
  refine ⟨rfl, O', C', hI', ho.trans ho1 hg, hg.trans hg' ho.size, fun h hh => (hsame h (.inr (.inl hh))).trans (hst h hh), owns_same hrow (fun b hb => ho1.block b (hrow.lt b hb).2 (hn b hb)), ?_, ?_⟩
  · intro b hb hO
    rcases hg' b hO with e | e
    · exact hn b hb e
    · have := (hrow.lt b hb).2; omega
  · intro h hh
    rcases hh with a | a
    · obtain ⟨f, hf, hF⟩ := hT h (.inl a)
      exact ⟨f, (hsame h (.inr (.inr a))).trans hf, hF⟩
    · simp at a

theorem woodCells_stay (x : Nat) (vars nums : List Nat) (sv v' : Value) (vl : vars.length = 6) (nl : nums.length = 6) : (woodCells x vars nums sv).toArray.setIfInBounds 13 v' = (woodCells x vars nums v').toArray := by
  match vars, vl with
  | [a, b, c, d, e, f], _ =>
    match nums, nl with
    | [a', b', c', d', e', f'], _ => rfl

/-- w.stay = append(w.stay, f). -/
theorem WoodAt.stayed {O : Nat → Prop} {w w2 : World} {wb x : Nat} {C : CopS} {vars nums stay : List Nat} {sv v' : Value} {Oc : Nat → Prop} {f : Nat} {o : Obj} (h : WoodAt O w wb x C vars nums stay sv Oc) (ho : w2.ownsRow 0 3 1 v' (stay.length + 1) (stay.map natv ++ [natv f])) (hgr : (w.alloc o).grownBy w2 sv.ownBlock) (hp : Placed (w.alloc o) sv v') :
    w2.cell? ⟨wb, 13, none⟩ = some sv ∧ w2.frozen? ⟨wb, 13, none⟩ = false ∧ Only O w (w2.setCell ⟨wb, 13, none⟩ v') ∧ ∃ O', WoodAt O' (w2.setCell ⟨wb, 13, none⟩ v') wb x C vars nums (stay ++ [f]) v' Oc ∧ Grows w O O' := by
  have hsz := hgr.size
  simp only [World.size_alloc] at hsz
  have hblk : ∀ k, k < w.heap.size → sv.ownBlock ≠ some k → w2.heap[k]? = w.heap[k]? := by
    intro k hk hne
    rw [hgr.block k (by simp; omega) (fun e => hne e.symm)]
    exact Below.heap_alloc _ _ _ hk
  have hne := h.ne
  have hwl := h.lt wb h.self
  have hw : w2.heap[wb]? = w.heap[wb]? := hblk wb hwl hne
  have hw' := hw.trans h.cells
  have hset : ∀ k, k ≠ wb → (w2.setCell ⟨wb, 13, none⟩ v').heap[k]? = w2.heap[k]? := fun k e => Below.heap_setCell _ _ _ _ e
  obtain ⟨e1, e2, e3, e4, e5, _⟩ := wood_get x vars nums sv h.vl h.nl
  have hv'l : ∀ b, v'.ownBlock = some b → b < w2.heap.size := fun b hb => (ho.lt b hb).2
  have hv'ne : v'.ownBlock ≠ some wb := by
    intro e
    rcases hp wb e with a | a
    · exact hne a
    · simp only [World.size_alloc] at a; omega
  refine ⟨by rw [cell_of_heap hw']; simpa using e4, frozen_of_heap hw', ?_, fun b => O b ∨ v'.ownBlock = some b, ⟨?_, .inl h.self, fun b hb => .inl (h.oc b hb), ?_, h.vl, h.nl, ?_, ?_, h.nw, ?_⟩, ?_⟩
  · refine (((Only.refl O w).alloc o).grown hgr (fun k hk => .inl (h.stay.2 k hk))).setCell (p := ⟨wb, 13, none⟩) (.inl h.self) _
  · rintro b (hb | hb)
    · have := h.lt b hb
      simp [World.setCell]; omega
    · have := hv'l b hb
      simpa [World.setCell] using this
  · rw [heap_setCell_at hw', woodCells_stay x vars nums sv v' h.vl h.nl]
  · refine h.cop.keep (by simp [World.setCell]; omega) (fun k hk => ?_)
    rw [hset k (fun e => h.nw (by rw [← e]; exact hk))]
    exact hblk k (h.lt k (h.oc k hk)) (fun e => h.ns k e hk)
  · refine ⟨?_, fun b hb => .inr hb⟩
    rw [List.map_append, List.length_append, List.length_map]
    refine owns_same ho (fun b hb => hset b (fun e => hv'ne (by rw [← e]; exact hb)))
  · intro b hb hO
    rcases hp b hb with a | a
    · exact h.ns b a hO
    · simp only [World.size_alloc] at a
      have := h.lt b (h.oc b hO)
      omega
  · rintro b (hb | hb)
    · exact .inl hb
    · rcases hp b hb with a | a
      · exact .inl (h.stay.2 b a)
      · right
        simp only [World.size_alloc] at a
        omega

def MadeP (O : Nat → Prop) (w : World) (C : CopS) (wb : Nat) (vars nums stay : List Nat) (r : Nat) (w' : World) : Prop :=
  ∃ C' f, C'.T r = some f ∧ (∀ h ∈ stay, C'.T h = C.T h) ∧ WStep O w wb w' C' vars nums (stay ++ [r]) (stay.length + 1)

/-- The function stays. -/
theorem MM.stays {O0 : Nat → Prop} {w0 : World} {C0 : CopS} {wb : Nat} {vars nums stay : List Nat} {K : Nat} {Fl : List Tab} {lv : Value} {l ex : List Nat} {wr : World} (h : MM O0 w0 C0 wb vars nums stay K Fl lv l ex wr) (hs : stay.length ≤ 100) (f : Nat) (hf : f ∈ l ∨ f ∈ ex) :
    ∃ sv, wr.cell? ⟨wb, 13, none⟩ = some sv ∧ wr.ownsRow 0 3 1 sv stay.length (stay.map natv) ∧ ∀ w2 v' o, w2.ownsRow 0 3 1 v' (stay.length + 1) (stay.map natv ++ [natv f]) → (wr.alloc o).grownBy w2 sv.ownBlock → Placed (wr.alloc o) sv v' →
      w2.cell? ⟨wb, 13, none⟩ = some sv ∧ w2.frozen? ⟨wb, 13, none⟩ = false ∧ Calls Try.prog 11 #[.pointer (some ⟨wb, 0, none⟩), .slice none 0 0] (w2.setCell ⟨wb, 13, none⟩ v') fun e w4 => e = .returned (.tuple #[]) ∧ MadeP O0 w0 C0 wb vars nums stay f w4 := by
  obtain ⟨O, C, ⟨x, sv, Oc, hA, hok⟩, ho, hg, hst, hrow, hn, hT⟩ := h
  refine ⟨sv, hA.c.2.2.2.1, by have := hA.stay.1; rwa [List.length_map] at this, ?_⟩
  intro w2 v' o ho2 hgr hp
  obtain ⟨h1, h2, h3, O2, hA2, hg2⟩ := hA.stayed ho2 hgr hp
  refine ⟨h1, h2, ?_⟩
  obtain ⟨tf, htf, _⟩ := hT f hf
  have hst2 : ∀ h ∈ stay ++ [f], ∃ t, C.T h = some t := by
    intro h hh
    rcases List.mem_append.1 hh with a | a
    · exact hok.st h a
    · have : h = f := by simpa using a
      subst this
      exact ⟨tf, htf⟩
  have hok2 : WoodOk C vars nums (stay ++ [f]) K := ⟨hok.vT, hok.n6, hok.ninj, hok.cap, hok.order, hok.nmlen, hok.names, hst2, hok.few⟩
  have hc := woodClean (⟨x, v', Oc, hA2, hok2⟩ : WoodI O2 _ wb C vars nums (stay ++ [f]) K) [] (.slice none 0 0) (.inl ⟨rfl, rfl⟩) (by simp) (stayF C (stay ++ [f])) (by
    intro h hh t ht
    rcases hh with a | a
    · exact .inr (.inl (stayF_mem a ht))
    · simp at a) (by simp; omega)
  rw [stayF_len, List.length_append] at hc
  refine hc.mono ?_
  rintro e w4 ⟨rfl, C', ⟨ho4, O4, hI4, hg4⟩, hback, hsame⟩
  refine ⟨rfl, C', tf, (hsame f (.inr (.inl (by simp)))).trans htf, fun h hh => (hsame h (.inr (.inl (List.mem_append_left _ hh)))).trans (hst h hh), (ho.trans h3 hg).trans ho4 ?_, O4, hI4, ?_⟩
  · exact hg.trans hg2 ho.size
  · exact (hg.trans hg2 ho.size).trans hg4 (Nat.le_trans ho.size h3.size)

theorem MM.append {O0 : Nat → Prop} {w0 : World} {C0 : CopS} {wb : Nat} {vars nums stay : List Nat} {K : Nat} {Fl : List Tab} {g n cap : Nat} {l ex : List Nat} {wr w2 : World} {o : Obj} (h : MM O0 w0 C0 wb vars nums stay K Fl (.slice (some ⟨g, 0, none⟩) n cap) l ex wr) {m r : Nat} (hm : m ≤ l.length) (hr : r ∈ l ∨ r ∈ ex) {v' : Value}
    (ho : w2.ownsRow w0.heap.size 3 1 v' (m + 1) ((l.map natv).take m ++ [natv r])) (hgr : (wr.alloc o).grownBy w2 (Value.slice (some ⟨g, 0, none⟩) m cap).ownBlock) (hp : Placed (wr.alloc o) (.slice (some ⟨g, 0, none⟩) m cap) v') :
    ∃ l2 ao cap', l2.length = m + 1 ∧ v' = .slice ao l2.length cap' ∧ MM O0 w0 C0 wb vars nums stay K Fl (.slice ao l2.length cap') l2 ex w2 := by
  obtain ⟨ao, cap', h1, h2⟩ := h.appended hm hr ho hgr hp
  exact ⟨_, ao, cap', by rw [List.length_append, List.length_take, Nat.min_eq_left hm]; rfl, h1, h2⟩

theorem wrap_small (n : Int) (h : 0 ≤ n ∧ n ≤ 1000) : IntKind.i64.wrap n = n := by rw [IntKind.wrap_i64]; omega

theorem MM.take {O0 : Nat → Prop} {w0 : World} {C0 : CopS} {wb : Nat} {vars nums stay : List Nat} {K : Nat} {Fl : List Tab} {g n cap : Nat} {l ex : List Nat} {wr : World} (h : MM O0 w0 C0 wb vars nums stay K Fl (.slice (some ⟨g, 0, none⟩) n cap) l ex wr) (hn : n = l.length) {m : Nat} (hm : m ≤ l.length) : wr.ownsRow w0.heap.size 3 1 (.slice (some ⟨g, 0, none⟩) m cap) m ((l.map natv).take m) := by
  subst hn
  exact owns_take h.owns.1 hm

theorem MM.append0 {O0 : Nat → Prop} {w0 : World} {C0 : CopS} {wb : Nat} {vars nums stay : List Nat} {K : Nat} {Fl : List Tab} {g cap : Nat} {l ex : List Nat} {wr w2 : World} {o : Obj} (h : MM O0 w0 C0 wb vars nums stay K Fl (.slice (some ⟨g, 0, none⟩) l.length cap) l ex wr) {r : Nat} (hr : r ∈ l ∨ r ∈ ex) {v' : Value}
    (ho : w2.ownsRow w0.heap.size 3 1 v' (l.length + 1) (l.map natv ++ [natv r])) (hgr : (wr.alloc o).grownBy w2 (Value.slice (some ⟨g, 0, none⟩) l.length cap).ownBlock) (hp : Placed (wr.alloc o) (.slice (some ⟨g, 0, none⟩) l.length cap) v') :
    ∃ l2 ao cap', l2.length = l.length + 1 ∧ v' = .slice ao l2.length cap' ∧ MM O0 w0 C0 wb vars nums stay K Fl (.slice ao l2.length cap') l2 ex w2 := by
  refine h.append (Nat.le_refl _) hr ?_ hgr hp
  rw [List.take_of_length_le (by simp)]
  exact ho

theorem MM.start {O : Nat → Prop} {w w1 : World} {wb : Nat} {C : CopS} {vars nums stay : List Nat} {K : Nat} (hI : WoodI O w wb C vars nums stay K) (h1 : w1 = w.alloc (.cells #[.int .i64 (vars.getD 0 0 : Nat)] 3)) : MM O w C wb vars nums stay K [] (.slice (some ⟨w.heap.size, 0, none⟩) 1 1) [vars.getD 0 0] [] w1 := by
  have hb : Below w.heap.size w w1 := by rw [h1]; exact (Below.refl _ w).alloc (Nat.le_refl _) _
  have hlt := hI.lt
  refine ⟨O, C, hI.keep hb.size (fun k hk => hb.block k (hI.lt k hk)), only_of_below hb O, Grows.refl _ _, fun _ _ => rfl, ?_, ?_, ?_⟩
  · refine ⟨rfl, .inr ⟨w.heap.size, 1, #[.int .i64 (vars.getD 0 0 : Nat)], rfl, Nat.le_refl _, ?_, Nat.le_refl _, by unfold maxLen; omega, rfl, rfl⟩⟩
    rw [h1]
    exact heap_alloc_new _ _
  · intro b hb' hO
    simp [Value.ownBlock] at hb'
    have := hlt b hO
    omega
  · intro h hh
    have : h = vars.getD 0 0 := by simpa using hh
    subst this
    obtain ⟨x, sv, Oc, hA, hok⟩ := hI
    exact ⟨_, hok.vT 0 (by omega), .inl ⟨_, hok.n6 0 (by omega), rfl⟩⟩

theorem only_cell {O : Nat → Prop} {w wr : World} (ho : Only O w wr) {p : Addr} (hp : p.block < w.heap.size) (hn : ¬ O p.block) : wr.cell? p = w.cell? p := World.cell?_of_block (ho.block p.block hp hn)

theorem Reads.numO {w wr : World} {O : Nat → Prop} {ao : Option Addr} {cap : Nat} {raws : List Int} (h : Reads w.heap.size w (.slice ao raws.length cap) (raws.map zv)) (ho : Only O w wr) (hO : ∀ ad, ao = some ad → ¬ O ad.block) {q : Nat} (hq : q < raws.length) : ∃ b off, ao = some ⟨b, off, none⟩ ∧ wr.cell? ⟨b, off + q, none⟩ = some (.int .i64 (raws.getD q 0)) := by
  rcases h with ⟨_, e⟩ | ⟨b, off, c, e, hlt, hc⟩
  · have : raws = [] := by simpa using e
    subst this
    simp at hq
  · simp only [Value.slice.injEq] at e
    obtain ⟨rfl, _, _⟩ := e
    refine ⟨b, off, rfl, ?_⟩
    have := (only_cell ho (p := ⟨b, off + q, none⟩) hlt (hO ⟨b, off, none⟩ rfl)).trans (hc q (by simpa using hq))
    rw [this]
    simp [zv, hq]

theorem MM.only {O0 : Nat → Prop} {w0 : World} {C0 : CopS} {wb : Nat} {vars nums stay : List Nat} {K : Nat} {Fl : List Tab} {lv : Value} {l ex : List Nat} {wr : World} (h : MM O0 w0 C0 wb vars nums stay K Fl lv l ex wr) : Only O0 w0 wr := by
  obtain ⟨O, C, hI, ho, hg, hst, hrow, hn, hT⟩ := h
  exact ho

theorem getD_mem {l : List Nat} {i : Nat} (h : i < l.length) : l.getD i 0 ∈ l := by
  rw [List.getD_eq_getElem?_getD, List.getElem?_eq_getElem h]
  exact List.getElem_mem h

end Go.Proofs.Ytebfmcafmojlaaa

/-
  copsekeep: tells, chosen: the assignment that is asked.
-/
namespace Go.Proofs.Ytebfmcafmojlaaa
open Go.RowKit Go.Maps
set_option linter.unusedSimpArgs false
set_option linter.unusedVariables false

structure Perm6 (nums : List Nat) : Prop where
  lt : ∀ i, i < 6 → nums.getD i 0 < 6
  inj : ∀ i j, i < 6 → j < 6 → nums.getD i 0 = nums.getD j 0 → i = j

theorem Perm6.surj {nums : List Nat} (h : Perm6 nums) {j : Nat} (hj : j < 6) : ∃ v, v < 6 ∧ nums.getD v 0 = j := by
  apply Classical.byContradiction
  intro hn
  have hnd : ((List.range 6).map (fun v => nums.getD v 0)).Nodup := by
    rw [List.Nodup, List.pairwise_map]
    refine List.Pairwise.imp_of_mem ?_ (List.nodup_range (n := 6))
    intro a b ha hb hne e
    exact hne (h.inj a b (List.mem_range.1 ha) (List.mem_range.1 hb) e)
  have := hnd.length_le_of_subset (l₂ := (List.range 6).erase j) (by
    intro x hx
    obtain ⟨v, hv, rfl⟩ := List.mem_map.1 hx
    have hv6 := List.mem_range.1 hv
    rw [List.Nodup.mem_erase_iff List.nodup_range]
    exact ⟨fun e => hn ⟨v, hv6, e⟩, List.mem_range.2 (h.lt v hv6)⟩)
  rw [List.length_map, List.length_range, List.length_erase_of_mem (List.mem_range.2 hj), List.length_range] at this
  omega

def asg (nums : List Nat) (i : Nat) : Nat → Nat
  | 0 => 0
  | k + 1 => setb (asg nums i k) (nums.getD k 0) (i.testBit k)

theorem asg_lt {nums : List Nat} (h : Perm6 nums) (i : Nat) : ∀ k, k ≤ 6 → asg nums i k < 64 := by
  intro k
  induction k with
  | zero => intro _; show 0 < 64; omega
  | succ k ih => intro hk; exact setb_lt _ _ _ (h.lt k (by omega)) (ih (by omega))

theorem asg_bit {nums : List Nat} (h : Perm6 nums) (i : Nat) : ∀ k, k ≤ 6 → ∀ v, v < 6 → (asg nums i k).testBit (nums.getD v 0) = (decide (v < k) && i.testBit v) := by
  intro k
  induction k with
  | zero => intro _ v hv; show (0 : Nat).testBit _ = _; simp
  | succ k ih =>
    intro hk v hv
    have hlt := asg_lt h i k (by omega)
    show (setb (asg nums i k) (nums.getD k 0) (i.testBit k)).testBit _ = _
    by_cases e : v = k
    · subst e
      rw [setb_self _ _ _ (h.lt v hv) hlt]
      simp
    · rw [setb_other _ _ _ _ (h.lt k (by omega)) (h.lt v hv) hlt (fun q => e (h.inj v k hv (by omega) q)), ih (by omega) v hv]
      have : (v < k + 1) ↔ (v < k) := by omega
      simp [this]

theorem setb_add : ∀ (a : Fin 64) (u : Fin 6), a.1.testBit u.1 = false → setb a.1 u.1 true = a.1 + 2 ^ u.1 ∧ setb a.1 u.1 false = a.1 ∧ a.1 + 2 ^ u.1 < 64 := by decide +kernel

theorem asg_step {nums : List Nat} (h : Perm6 nums) (i : Nat) {k : Nat} (hk : k < 6) : (i.testBit k = true → asg nums i (k + 1) = asg nums i k + 2 ^ (nums.getD k 0)) ∧ (i.testBit k = false → asg nums i (k + 1) = asg nums i k) := by
  have hb := asg_bit h i k (by omega) k hk
  have hlt := asg_lt h i k (by omega)
  have := setb_add ⟨asg nums i k, hlt⟩ ⟨nums.getD k 0, h.lt k hk⟩ (by simpa using hb)
  constructor
  · intro e
    show setb (asg nums i k) (nums.getD k 0) (i.testBit k) = _
    rw [e]; exact this.1
  · intro e
    show setb (asg nums i k) (nums.getD k 0) (i.testBit k) = _
    rw [e]; exact this.2.1

def gvs (nums : List Nat) (i : Nat) (f : Tab) : Nat → Tab
  | 0 => f
  | k + 1 => given (gvs nums i f k) (nums.getD k 0) (i.testBit k)

def bk (nums : List Nat) (i : Nat) : Nat → Nat → Nat
  | 0, b => b
  | k + 1, b => bk nums i k (setb b (nums.getD k 0) (i.testBit k))

theorem bk_lt {nums : List Nat} (h : Perm6 nums) (i : Nat) : ∀ k, k ≤ 6 → ∀ b, b < 64 → bk nums i k b < 64 := by
  intro k
  induction k with
  | zero => intro _ b hb; exact hb
  | succ k ih => intro hk b hb; exact ih (by omega) _ (setb_lt _ _ _ (h.lt k (by omega)) hb)

theorem gvs_bit {nums : List Nat} (h : Perm6 nums) (i : Nat) (f : Tab) : ∀ k, k ≤ 6 → ∀ b, b < 64 → (gvs nums i f k).getLsbD b = f.getLsbD (bk nums i k b) := by
  intro k
  induction k with
  | zero => intro _ b _; rfl
  | succ k ih =>
    intro hk b hb
    show (given (gvs nums i f k) (nums.getD k 0) (i.testBit k)).getLsbD b = f.getLsbD (bk nums i k (setb b (nums.getD k 0) (i.testBit k)))
    rw [given_bit _ _ _ _ (h.lt k (by omega)) hb]
    exact ih (by omega) _ (setb_lt _ _ _ (h.lt k (by omega)) hb)

theorem bk_other {nums : List Nat} (h : Perm6 nums) (i : Nat) : ∀ k, k ≤ 6 → ∀ b, b < 64 → ∀ v, v < 6 → k ≤ v → (bk nums i k b).testBit (nums.getD v 0) = b.testBit (nums.getD v 0) := by
  intro k
  induction k with
  | zero => intro _ b _ v _ _; rfl
  | succ k ih =>
    intro hk b hb v hv hkv
    show (bk nums i k (setb b (nums.getD k 0) (i.testBit k))).testBit _ = _
    rw [ih (by omega) _ (setb_lt _ _ _ (h.lt k (by omega)) hb) v hv (by omega)]
    exact setb_other _ _ _ _ (h.lt k (by omega)) (h.lt v hv) hb (fun q => by have := h.inj v k hv (by omega) q; omega)

theorem bk_bit {nums : List Nat} (h : Perm6 nums) (i : Nat) : ∀ k, k ≤ 6 → ∀ b, b < 64 → ∀ v, v < k → (bk nums i k b).testBit (nums.getD v 0) = i.testBit v := by
  intro k
  induction k with
  | zero => intro _ b _ v hv; omega
  | succ k ih =>
    intro hk b hb v hv
    show (bk nums i k (setb b (nums.getD k 0) (i.testBit k))).testBit _ = _
    have hb' := setb_lt b (nums.getD k 0) (i.testBit k) (h.lt k (by omega)) hb
    by_cases e : v = k
    · subst e
      rw [bk_other h i v (by omega) _ hb' v (by omega) (Nat.le_refl _)]
      exact setb_self _ _ _ (h.lt v (by omega)) hb
    · exact ih (by omega) _ hb' v (by omega)

theorem bits6 {a b : Nat} (ha : a < 64) (hb : b < 64) (h : ∀ j, j < 6 → a.testBit j = b.testBit j) : a = b := by
  apply Nat.eq_of_testBit_eq
  intro j
  by_cases hj : j < 6
  · exact h j hj
  · have h64 : (64 : Nat) ≤ 2 ^ j := by
      have : (2 : Nat) ^ 6 ≤ 2 ^ j := Nat.pow_le_pow_right (by decide) (by omega)
      simpa using this
    rw [Nat.testBit_lt_two_pow (Nat.lt_of_lt_of_le ha h64), Nat.testBit_lt_two_pow (Nat.lt_of_lt_of_le hb h64)]

theorem bk_asg {nums : List Nat} (h : Perm6 nums) (i b : Nat) (hb : b < 64) : bk nums i 6 b = asg nums i 6 := by
  refine bits6 (bk_lt h i 6 (Nat.le_refl _) b hb) (asg_lt h i 6 (Nat.le_refl _)) ?_
  intro j hj
  obtain ⟨v, hv, rfl⟩ := h.surj hj
  rw [bk_bit h i 6 (Nat.le_refl _) b hb v hv, asg_bit h i 6 (Nat.le_refl _) v hv]
  simp [hv]

/-- All variables have values: a constant. -/
theorem gvs_const {nums : List Nat} (h : Perm6 nums) (i : Nat) (f : Tab) : gvs nums i f 6 = if f.getLsbD (asg nums i 6) then onesT else 0 := by
  apply tab_ext
  intro b hb
  rw [gvs_bit h i f 6 (Nat.le_refl _) b hb, bk_asg h i b hb]
  split
  · rename_i e; rw [e, onesT_bit b hb]
  · rename_i e
    have : f.getLsbD (asg nums i 6) = false := by simpa using e
    rw [this]; simp

theorem WoodOk.perm {C : CopS} {vars nums stay : List Nat} {K : Nat} (h : WoodOk C vars nums stay K) : Perm6 nums := ⟨h.n6, h.ninj⟩

theorem WStep.trans {O O1 : Nat → Prop} {w w1 w2 : World} {wb : Nat} {C : CopS} {vars nums stay : List Nat} {K : Nat} (ho : Only O w w1) (hg : Grows w O O1) (h : WStep O1 w1 wb w2 C vars nums stay K) : WStep O w wb w2 C vars nums stay K := by
  obtain ⟨ho2, O', hI, hg2⟩ := h
  exact ⟨ho.trans ho2 hg, O', hI, hg.trans hg2 ho.size⟩

theorem TExt.trans {C C' C'' : CopS} (h : TExt C C') (k : TExt C' C'') : TExt C C'' := fun a f hf => k a f (h a f hf)

end Go.Proofs.Ytebfmcafmojlaaa

/-
  copsekeep: tells, chosen.
-/
namespace Go.Proofs.Ytebfmcafmojlaaa
open Go.RowKit Go.Maps
set_option linter.unusedSimpArgs false
set_option linter.unusedVariables false

/-- A call of the copse that changes nothing that is seen. -/
theorem asked_wood {O : Nat → Prop} {w w1 : World} {wb x : Nat} {C : CopS} {vars nums stay : List Nat} {sv : Value} {Oc : Nat → Prop} {K : Nat} (hA : WoodAt O w wb x C vars nums stay sv Oc) (hok : WoodOk C vars nums stay K) (hst : CopStep CopI Oc w x w1 C) :
    w1.cell? ⟨wb, 14, none⟩ = some (.bool true) ∧ w1.frozen? ⟨wb, 14, none⟩ = false ∧ WStep O w wb (w1.setCell ⟨wb, 14, none⟩ (.bool true)) C vars nums stay K := by
  obtain ⟨ho, O', Oc', hA', hg⟩ := hA.copped hst
  obtain ⟨hA2, ho2⟩ := hA'.okay
  exact ⟨hA'.c.2.2.2.2.1, hA'.c.2.2.2.2.2 14, ho.trans ho2 hg, O', ⟨x, sv, Oc', hA2, hok⟩, hg⟩

set_option maxHeartbeats 1000000 in
set_option maxRecDepth 10000 in
theorem woodTells {O : Nat → Prop} {w : World} {wb : Nat} {C : CopS} {vars nums stay : List Nat} {K : Nat} (hI : WoodI O w wb C vars nums stay K) (fh : Nat) (f : Tab) (hf : C.T fh = some f) (i : Nat) (hi : i < 64) :
    Calls Try.prog 15 #[.pointer (some ⟨wb, 0, none⟩), .int .i64 fh, .int .i64 i] w fun e w' => e = .returned (.bool (f.getLsbD (asg nums i 6))) ∧ WStep O w wb w' C vars nums stay K := by
  obtain ⟨x, sv, Oc, hA, hok⟩ := hI
  have hp := hok.perm
  have c0 := hA.c.1
  have cn := hA.c.2.2.1
  have hev : Calls Try.prog 28 #[.pointer (some ⟨x, 0, none⟩), .int .i64 fh, .int .i64 (asg nums i 6 : Nat)] w fun e w1 => e = .returned (.tuple #[.bool (f.getLsbD (asg nums i 6)), .int .i64 0]) ∧ w1.cell? ⟨wb, 14, none⟩ = some (.bool true) ∧ w1.frozen? ⟨wb, 14, none⟩ = false ∧ WStep O w wb (w1.setCell ⟨wb, 14, none⟩ (.bool true)) C vars nums stay K := by
    refine (copseEval_yes hA.cop fh f (asg nums i 6) hf (by rw [hok.nmlen]; exact asg_lt hp i 6 (Nat.le_refl _))).mono ?_
    rintro e w1 ⟨h1, h2⟩
    exact ⟨h1, asked_wood hA hok h2⟩
  have HP : Hid (Perm6 nums) := hp
  have HN : Hid _ := cn
  clear hp cn hA hok hf
  go_enter Try.func15, Try.ntmps15
  go_upto_region 3 with fail
  go_loop [7, 8] (fun a v => ∃ k : Nat, k ≤ 6 ∧ v = .int .i64 (k : Nat) ∧ a = .int .i64 (asg nums i k : Nat)) (fun _ v => 6 - (intOf v).toNat)
  case atStart => exact ⟨0, Nat.zero_le _, rfl, rfl⟩
  case round =>
    obtain ⟨k, hk, rfl, rfl⟩ := hrel
    by_cases hlt : k < 6
    · have hbit := eval_bits i k hi
      have cnk := HN.out k hlt
      have hs := asg_step HP.out i hlt
      have ha := asg_lt HP.out i k hk
      have hn6 := HP.out.lt k hlt
      have hpw := pow_wrap (nums.getD k 0) (by omega)
      obtain ⟨u, hu⟩ : ∃ u, u = nums.getD k 0 := ⟨_, rfl⟩
      rw [← hu] at cnk hs hn6 hpw
      have hp64 : 2 ^ u ≤ 32 := by
        have : (2 : Nat) ^ u ≤ 2 ^ 5 := Nat.pow_le_pow_right (by decide) (by omega)
        simpa using this
      obtain ⟨P, hP⟩ : ∃ P, P = 2 ^ u := ⟨_, rfl⟩
      rw [← hP] at hs hp64 hpw
      obtain ⟨A, hA⟩ : ∃ A, A = asg nums i k := ⟨_, rfl⟩
      rw [← hA] at hs ha ⊢
      have HK : Hid (k < 6) := hlt
      clear hu hP hA hev HN
      cases htb : i.testBit k
      · have HS : Hid _ := hs.2 htb
        rw [htb] at hbit
        simp only [Bool.false_eq_true, if_false] at hbit
        clear htb hs hpw
        go_wp2
        exact ⟨⟨k + 1, by omega, congrArg (Value.int .i64) (by omega), congrArg (fun n : Nat => Value.int .i64 (n : Int)) HS.out.symm⟩, by simp [intOf]; omega⟩
      · have HS : Hid _ := hs.1 htb
        rw [htb] at hbit
        simp only [if_true] at hbit
        clear htb hs
        go_wp2
        exact ⟨⟨k + 1, by omega, congrArg (Value.int .i64) (by omega), congrArg (Value.int .i64) (by rw [HS.out]; omega)⟩, by simp [intOf]; omega⟩
    · have hk6 : k = 6 := by omega
      subst hk6
      obtain ⟨A, hA⟩ : ∃ A, A = asg nums i 6 := ⟨_, rfl⟩
      rw [← hA] at hev ⊢
      have HA : Hid (A = asg nums i 6) := hA
      clear hA HN
      go_wp2_with (go_at_call 28; refine hev.mono ?_; clear hev; rintro e w1 ⟨rfl, d1, d2, hst⟩; have HST : Hid _ := hst; clear hst)
      go_ret
      exact ⟨retB (by rw [HA.out]), HST.out⟩

theorem ones_ne : (onesT : Tab) ≠ 0 := by decide

set_option maxHeartbeats 1000000 in
set_option maxRecDepth 10000 in
theorem woodChosen {O : Nat → Prop} {w : World} {wb : Nat} {C : CopS} {vars nums stay : List Nat} {K : Nat} (hI : WoodI O w wb C vars nums stay K) (hK : K ≤ 12) (hs : stay.length ≤ 100) (fh : Nat) (f : Tab) (hf : C.T fh = some f) (i : Nat) (hi : i < 64) :
    Calls Try.prog 16 #[.pointer (some ⟨wb, 0, none⟩), .int .i64 fh, .int .i64 i] w fun e w' => e = .returned (.bool (f.getLsbD (asg nums i 6))) ∧ ∃ C', (∀ h ∈ stay, C'.T h = C.T h) ∧ WStep O w wb w' C' vars nums stay stay.length := by
  have hperm : Perm6 nums := by
    obtain ⟨x, sv, Oc, hA, hok⟩ := hI
    exact hok.perm
  have hst : ∀ h ∈ stay, ∃ t, C.T h = some t := by
    obtain ⟨x, sv, Oc, hA, hok⟩ := hI
    exact hok.st
  have HP : Hid (Perm6 nums) := hperm
  have HST : Hid _ := hst
  have HI : Hid (WoodI O w wb C vars nums stay K) := hI
  clear hperm hst hI
  go_enter Try.func16, Try.ntmps16
  go_upto_region 2 with fail
  go_loopw [1, 7] (fun fv v wr => ∃ (k h : Nat) (C' : CopS), k ≤ 6 ∧ v = .int .i64 (k : Nat) ∧ fv = .int .i64 (h : Nat) ∧ C'.T h = some (gvs nums i f k) ∧ TExt C C' ∧ WStep O w wb wr C' vars nums stay (K + k)) (fun _ v _ => 6 - (intOf v).toNat)
  case atStart => exact ⟨0, fh, C, Nat.zero_le _, rfl, rfl, hf, fun _ _ h => h, Only.refl _ _, O, HI.out, Grows.refl _ _⟩
  case round =>
    obtain ⟨k, h, C', hk, rfl, rfl, hT, hext, ho, O1, hI1, hg1⟩ := hrel
    clear HI hf
    by_cases hlt : k < 6
    · have hbit := eval_bits i k hi
      have hgv : Calls Try.prog 13 #[.pointer (some ⟨wb, 0, none⟩), .int .i64 h, .int .i64 k, .bool (i.testBit k)] wr fun e w' => ∃ r : Nat, e = .returned (.int .i64 (r : Nat)) ∧ ∃ C2, C2.T r = some (gvs nums i f (k + 1)) ∧ TExt C C2 ∧ WStep O w wb w' C2 vars nums stay (K + (k + 1)) := by
        refine (woodGiven hI1 (by omega) h _ hT k hlt (i.testBit k)).mono ?_
        rintro e w' ⟨r, h1, C2, h2, h3, _, h4⟩
        exact ⟨r, h1, C2, h3, hext.trans h2, WStep.trans ho hg1 h4⟩
      have HK : Hid (k < 6) := hlt
      have he1 : ((if i.testBit k = true then (1 : Int) else 0) == 1) = i.testBit k := by cases i.testBit k <;> rfl
      generalize i.testBit k = tb at hbit hgv he1
      clear hT hext ho hI1 hg1 HST HP
      go_wp2_with (go_at_call 13; refine hgv.mono ?_; clear hgv; rintro e w' ⟨r, rfl, C2, g1, g2, g3⟩; have HG : Hid (C2.T r = some (gvs nums i f (k + 1)) ∧ TExt C C2 ∧ WStep O w wb w' C2 vars nums stay (K + (k + 1))) := ⟨g1, g2, g3⟩; clear g1 g2 g3)
      have hlt := HK.out
      obtain ⟨g1, g2, g3⟩ := HG.out
      exact ⟨⟨k + 1, r, C2, by omega, congrArg (Value.int .i64) (by omega), rfl, g1, g2, g3⟩, by simp [intOf]; omega⟩
    · have hk6 : k = 6 := by omega
      subst hk6
      rw [gvs_const HP.out] at hT
      obtain ⟨x, cx⟩ := hI1.c
      have hcon := fun W => copseConst_is x true W
      have hcs := hI1.consts
      have hinj : ∀ {a b : Nat} {t : Tab}, C'.T a = some t → C'.T b = some t → a = b := by
        obtain ⟨x, sv, Oc, hA, hok⟩ := hI1
        exact hA.cop.inj
      have hres : ((h : Int) == 0) = f.getLsbD (asg nums i 6) := by
        cases hb : f.getLsbD (asg nums i 6)
        · rw [hb] at hT
          simp only [Bool.false_eq_true, if_false] at hT
          have : h ≠ 0 := by
            intro e
            rw [e, hcs.2] at hT
            exact ones_ne (Option.some.inj hT)
          simpa using this
        · rw [hb] at hT
          simp only [if_true] at hT
          have := hinj hT hcs.2
          subst this
          rfl
      have hcl : Calls Try.prog 11 #[.pointer (some ⟨wb, 0, none⟩), .slice none 0 0] wr fun e w' => e = .returned (.tuple #[]) ∧ ∃ C2, (∀ h ∈ stay, C2.T h = C.T h) ∧ WStep O w wb w' C2 vars nums stay stay.length := by
        have hc := woodClean hI1 [] (.slice none 0 0) (.inl ⟨rfl, rfl⟩) (by simp) (stayF C' stay) (by
          intro h hh t ht
          rcases hh with a | a
          · exact .inr (.inl (stayF_mem a ht))
          · simp at a) (by simp; omega)
        rw [stayF_len] at hc
        refine hc.mono ?_
        rintro e w' ⟨h1, C2, h2, _, h3⟩
        refine ⟨h1, C2, ?_, WStep.trans ho hg1 h2⟩
        intro q hq
        obtain ⟨t, ht⟩ := HST.out q hq
        rw [h3 q (.inr (.inl hq)), hext q t ht, ht]
      have HR : Hid _ := hres
      clear hT hext ho hI1 hg1 HST HP hcs hinj hres
      go_wp2_with (first
        | (go_at_call 14; refine (hcon _).mono ?_; clear hcon; rintro e w1 ⟨rfl, hq⟩; replace hq := hq.symm; subst hq)
        | (go_at_call 11; refine hcl.mono ?_; clear hcl; rintro e w' ⟨rfl, hfin⟩; have HF : Hid _ := hfin; clear hfin))
      go_ret
      exact ⟨retB HR.out, HF.out⟩

end Go.Proofs.Ytebfmcafmojlaaa

/-
  copsekeep: Lawful: what is told of the handles.
-/
namespace Go.Proofs.Ytebfmcafmojlaaa
open Go.RowKit Go.Maps
set_option linter.unusedSimpArgs false
set_option linter.unusedVariables false

theorem andT_bit (f g : Tab) (a : Nat) (ha : a < 64) : (andT f g).getLsbD a = (f.getLsbD a && g.getLsbD a) := by
  unfold andT
  rw [iteT_bit _ _ _ _ ha]
  cases f.getLsbD a <;> simp
theorem orT_bit (f g : Tab) (a : Nat) (ha : a < 64) : (orT f g).getLsbD a = (f.getLsbD a || g.getLsbD a) := by
  unfold orT
  rw [iteT_bit _ _ _ _ ha, onesT_bit a ha]
  cases f.getLsbD a <;> simp
theorem notT_bit (f : Tab) (a : Nat) (ha : a < 64) : (~~~ f).getLsbD a = !(f.getLsbD a) := by
  rw [BitVec.getLsbD_not]
  simp [ha]

theorem lawX (f g : Tab) : orT (~~~ f) (~~~ g) = ~~~ (andT f g) := by
  apply tab_ext; intro a ha
  rw [orT_bit _ _ _ ha, notT_bit _ _ ha, notT_bit _ _ ha, notT_bit _ _ ha, andT_bit _ _ _ ha]
  cases f.getLsbD a <;> cases g.getLsbD a <;> rfl
theorem lawY (f g h : Tab) : orT (andT f g) (andT (~~~ f) h) = iteT f g h := by
  apply tab_ext; intro a ha
  rw [orT_bit _ _ _ ha, andT_bit _ _ _ ha, andT_bit _ _ _ ha, notT_bit _ _ ha, iteT_bit _ _ _ _ ha]
  cases f.getLsbD a <;> cases g.getLsbD a <;> cases h.getLsbD a <;> rfl
theorem lawZ (f : Tab) (n : Nat) (hn : n < 6) : iteT (mask n) (given f n true) (given f n false) = f := by
  apply tab_ext; intro a ha
  rw [iteT_bit _ _ _ _ ha, mask_bit n a hn ha, given_bit _ _ _ _ hn ha, given_bit _ _ _ _ hn ha]
  cases h : a.testBit n
  · have := setb_same a n
    rw [h] at this
    simp [this]
  · have := setb_same a n
    rw [h] at this
    simp [this]
theorem lawT1 (f : Tab) : orT f (~~~ f) = onesT := by
  apply tab_ext; intro a ha
  rw [orT_bit _ _ _ ha, notT_bit _ _ ha, onesT_bit a ha]
  cases f.getLsbD a <;> rfl
theorem lawT2 (f : Tab) : andT f (~~~ f) = 0 := by
  apply tab_ext; intro a ha
  rw [andT_bit _ _ _ ha, notT_bit _ _ ha]
  cases f.getLsbD a <;> simp
theorem lawT3 (f : Tab) : ~~~ (~~~ f) = f := by simp
theorem lawD (f : Tab) (n : Nat) (hn : n < 6) (b c : Bool) : given (given f n b) n c = given f n b := by
  apply tab_ext; intro a ha
  rw [given_bit _ _ _ _ hn ha, given_bit _ _ _ _ hn (setb_lt _ _ _ hn ha), given_bit _ _ _ _ hn ha, setb_setb _ _ _ _ hn ha]

def LW (w0 : World) (wb : Nat) (vars nums stay : List Nat) (live : List (Nat × Tab)) (K : Nat) (wr : World) : Prop :=
  ∃ O C, WoodI O wr wb C vars nums stay K ∧ (∀ b, O b → w0.heap.size ≤ b) ∧ Below w0.heap.size w0 wr ∧ ∀ p ∈ live, C.T p.1 = some p.2

theorem LW.below {w0 wr w' : World} {wb : Nat} {vars nums stay : List Nat} {live : List (Nat × Tab)} {K : Nat} (h : LW w0 wb vars nums stay live K wr) (hb : Below wr.heap.size wr w') : LW w0 wb vars nums stay live K w' := by
  obtain ⟨O, C, hI, hO, hb0, hl⟩ := h
  exact ⟨O, C, hI.keep hb.size (fun k hk => hb.block k (hI.lt k hk)), hO, hb0.trans (hb.mono hb0.size), hl⟩

theorem LW.sub {w0 wr : World} {wb : Nat} {vars nums stay : List Nat} {live live' : List (Nat × Tab)} {K : Nat} (h : LW w0 wb vars nums stay live K wr) (hs : ∀ p ∈ live', p ∈ live) : LW w0 wb vars nums stay live' K wr := by
  obtain ⟨O, C, hI, hO, hb0, hl⟩ := h
  exact ⟨O, C, hI, hO, hb0, fun p hp => hl p (hs p hp)⟩

theorem LW.more {w0 wr : World} {wb : Nat} {vars nums stay : List Nat} {live : List (Nat × Tab)} {K : Nat} (h : LW w0 wb vars nums stay live K wr) (k : Nat) (hk : k < 6) : LW w0 wb vars nums stay ((0, onesT) :: (1, 0) :: (vars.getD k 0, mask (nums.getD k 0)) :: live) K wr := by
  obtain ⟨O, C, hI, hO, hb0, hl⟩ := h
  refine ⟨O, C, hI, hO, hb0, ?_⟩
  have hc := hI.consts
  obtain ⟨x, sv, Oc, hA, hok⟩ := hI
  intro p hp
  rcases List.mem_cons.1 hp with rfl | hp
  · exact hc.2
  rcases List.mem_cons.1 hp with rfl | hp
  · exact hc.1
  rcases List.mem_cons.1 hp with rfl | hp
  · exact hok.vT k hk
  · exact hl p hp

theorem LW.c {w0 wr : World} {wb : Nat} {vars nums stay : List Nat} {live : List (Nat × Tab)} {K : Nat} (h : LW w0 wb vars nums stay live K wr) : (∃ x, wr.cell? ⟨wb, 0, none⟩ = some (.pointer (some ⟨x, 0, none⟩))) ∧ (∀ k, k < 6 → wr.cell? ⟨wb, 1 + k, none⟩ = some (.int .i64 (vars.getD k 0 : Nat))) ∧ wr.cell? ⟨wb, 14, none⟩ = some (.bool true) ∧ Perm6 nums := by
  obtain ⟨O, C, ⟨x, sv, Oc, hA, hok⟩, hO, hb0, hl⟩ := h
  exact ⟨⟨x, hA.c.1⟩, hA.c.2.1, hA.c.2.2.2.2.1, hok.perm⟩

theorem LW.same {w0 wr : World} {wb : Nat} {vars nums stay : List Nat} {live : List (Nat × Tab)} {K : Nat} (h : LW w0 wb vars nums stay live K wr) {a b : Nat} {t : Tab} (ha : (a, t) ∈ live) (hb : (b, t) ∈ live) : a = b := by
  obtain ⟨O, C, ⟨x, sv, Oc, hA, hok⟩, hO, hb0, hl⟩ := h
  exact hA.cop.inj (hl _ ha) (hl _ hb)

/-- A function has been told. -/
def ToldW (w0 wr : World) (wb : Nat) (vars nums stay : List Nat) (live : List (Nat × Tab)) (K : Nat) (t : Tab) (e : Ending) (w' : World) : Prop :=
  ∃ r : Nat, e = .returned (.int .i64 (r : Nat)) ∧ LW w0 wb vars nums stay ((r, t) :: live) (K + 1) w' ∧ w'.cell? ⟨wb, 0, none⟩ = wr.cell? ⟨wb, 0, none⟩

theorem LW.told {w0 wr : World} {wb : Nat} {vars nums stay : List Nat} {live : List (Nat × Tab)} {K : Nat} (h : LW w0 wb vars nums stay live K wr) : ∃ O C, WoodI O wr wb C vars nums stay K ∧ (∀ p ∈ live, C.T p.1 = some p.2) ∧ ∀ t e w', TellP O wr wb C vars nums stay (K + 1) t e w' → ToldW w0 wr wb vars nums stay live K t e w' := by
  obtain ⟨O, C, hI, hO, hb0, hl⟩ := h
  refine ⟨O, C, hI, hl, ?_⟩
  rintro t e w' ⟨r, h1, C', hext, hr, hcell, ho, O', hI', hg⟩
  obtain ⟨h3, h4⟩ := below_only hO hb0 ho hg
  refine ⟨r, h1, ⟨O', C', hI', h3, h4, ?_⟩, hcell⟩
  intro p hp
  rcases List.mem_cons.1 hp with rfl | hp
  · exact hr
  · exact hext _ _ (hl p hp)

/-- The handle is the one that there was. -/
theorem ToldW.is {w0 wr : World} {wb : Nat} {vars nums stay : List Nat} {live : List (Nat × Tab)} {K : Nat} {t : Tab} {e : Ending} {w' : World} (h : ToldW w0 wr wb vars nums stay live K t e w') {r0 : Nat} (h0 : (r0, t) ∈ live) : e = .returned (.int .i64 (r0 : Nat)) ∧ LW w0 wb vars nums stay live (K + 1) w' ∧ w'.cell? ⟨wb, 0, none⟩ = wr.cell? ⟨wb, 0, none⟩ := by
  obtain ⟨r, h1, h2, h3⟩ := h
  have := h2.same (List.mem_cons_self ..) (List.mem_cons_of_mem _ h0)
  subst this
  exact ⟨h1, h2.sub (fun p hp => List.mem_cons_of_mem _ hp), h3⟩

theorem LW.ite {w0 wr : World} {wb : Nat} {vars nums stay : List Nat} {live : List (Nat × Tab)} {K : Nat} (h : LW w0 wb vars nums stay live K wr) (hK : K ≤ 18) (a b c : Nat) (f g d : Tab) (ha : (a, f) ∈ live) (hb : (b, g) ∈ live) (hc : (c, d) ∈ live) :
    Calls Try.prog 12 #[.pointer (some ⟨wb, 0, none⟩), .int .i64 a, .int .i64 b, .int .i64 c] wr (ToldW w0 wr wb vars nums stay live K (iteT f g d)) := by
  obtain ⟨O, C, hI, hl, ht⟩ := h.told
  exact (woodIte hI hK a b c f g d (hl _ ha) (hl _ hb) (hl _ hc)).mono (fun e w' hp => ht _ e w' hp)
theorem LW.not {w0 wr : World} {wb : Nat} {vars nums stay : List Nat} {live : List (Nat × Tab)} {K : Nat} (h : LW w0 wb vars nums stay live K wr) (hK : K ≤ 18) (a : Nat) (f : Tab) (ha : (a, f) ∈ live) :
    Calls Try.prog 9 #[.pointer (some ⟨wb, 0, none⟩), .int .i64 a] wr (ToldW w0 wr wb vars nums stay live K (~~~ f)) := by
  obtain ⟨O, C, hI, hl, ht⟩ := h.told
  exact (woodNot hI hK a f (hl _ ha)).mono (fun e w' hp => ht _ e w' hp)
theorem LW.and {w0 wr : World} {wb : Nat} {vars nums stay : List Nat} {live : List (Nat × Tab)} {K : Nat} (h : LW w0 wb vars nums stay live K wr) (hK : K ≤ 18) (a b : Nat) (f g : Tab) (ha : (a, f) ∈ live) (hb : (b, g) ∈ live) :
    Calls Try.prog 7 #[.pointer (some ⟨wb, 0, none⟩), .int .i64 a, .int .i64 b] wr (ToldW w0 wr wb vars nums stay live K (andT f g)) := by
  obtain ⟨O, C, hI, hl, ht⟩ := h.told
  exact (woodAnd hI hK a b f g (hl _ ha) (hl _ hb)).mono (fun e w' hp => ht _ e w' hp)
theorem LW.or {w0 wr : World} {wb : Nat} {vars nums stay : List Nat} {live : List (Nat × Tab)} {K : Nat} (h : LW w0 wb vars nums stay live K wr) (hK : K ≤ 18) (a b : Nat) (f g : Tab) (ha : (a, f) ∈ live) (hb : (b, g) ∈ live) :
    Calls Try.prog 10 #[.pointer (some ⟨wb, 0, none⟩), .int .i64 a, .int .i64 b] wr (ToldW w0 wr wb vars nums stay live K (orT f g)) := by
  obtain ⟨O, C, hI, hl, ht⟩ := h.told
  exact (woodOr hI hK a b f g (hl _ ha) (hl _ hb)).mono (fun e w' hp => ht _ e w' hp)
theorem LW.given {w0 wr : World} {wb : Nat} {vars nums stay : List Nat} {live : List (Nat × Tab)} {K : Nat} (h : LW w0 wb vars nums stay live K wr) (hK : K ≤ 18) (a : Nat) (f : Tab) (ha : (a, f) ∈ live) (k : Nat) (hk : k < 6) (b : Bool) :
    Calls Try.prog 13 #[.pointer (some ⟨wb, 0, none⟩), .int .i64 a, .int .i64 k, .bool b] wr (ToldW w0 wr wb vars nums stay live K (Ytebfmcafmojlaaa.given f (nums.getD k 0) b)) := by
  obtain ⟨O, C, hI, hl, ht⟩ := h.told
  exact (woodGiven hI hK a f (hl _ ha) k hk b).mono (fun e w' hp => ht _ e w' hp)

theorem LW.clean {w0 wr : World} {wb : Nat} {vars nums stay : List Nat} {live live' : List (Nat × Tab)} {K : Nat} (h : LW w0 wb vars nums stay live K wr) (hs : stay.length ≤ 100) (hsub : ∀ p ∈ live', p ∈ live ∧ p.1 ∈ stay) :
    Calls Try.prog 11 #[.pointer (some ⟨wb, 0, none⟩), .slice none 0 0] wr fun e w' => e = .returned (.tuple #[]) ∧ LW w0 wb vars nums stay live' stay.length w' := by
  obtain ⟨O, C, hI, hO, hb0, hl⟩ := h
  have hc := woodClean hI [] (.slice none 0 0) (.inl ⟨rfl, rfl⟩) (by simp) (stayF C stay) (by
    intro h hh t ht
    rcases hh with a | a
    · exact .inr (.inl (stayF_mem a ht))
    · simp at a) (by simp; omega)
  rw [stayF_len] at hc
  refine hc.mono ?_
  rintro e w' ⟨h1, C2, ⟨ho, O', hI', hg⟩, _, h3⟩
  obtain ⟨h4, h5⟩ := below_only hO hb0 ho hg
  refine ⟨h1, O', C2, hI', h4, h5, ?_⟩
  intro p hp
  obtain ⟨a, b⟩ := hsub p hp
  rw [h3 p.1 (.inr (.inl b))]
  exact hl p a

theorem LW.tells {w0 wr : World} {wb : Nat} {vars nums stay : List Nat} {live : List (Nat × Tab)} {K : Nat} (h : LW w0 wb vars nums stay live K wr) (a : Nat) (f : Tab) (ha : (a, f) ∈ live) (i : Nat) (hi : i < 64) :
    Calls Try.prog 15 #[.pointer (some ⟨wb, 0, none⟩), .int .i64 a, .int .i64 i] wr fun e w' => e = .returned (.bool (f.getLsbD (asg nums i 6))) ∧ LW w0 wb vars nums stay live K w' := by
  obtain ⟨O, C, hI, hO, hb0, hl⟩ := h
  refine (woodTells hI a f (hl _ ha) i hi).mono ?_
  rintro e w' ⟨h1, ho, O', hI', hg⟩
  obtain ⟨h4, h5⟩ := below_only hO hb0 ho hg
  exact ⟨h1, O', C, hI', h4, h5, hl⟩

theorem LW.chosen {w0 wr : World} {wb : Nat} {vars nums stay : List Nat} {live : List (Nat × Tab)} {K : Nat} (h : LW w0 wb vars nums stay live K wr) (hK : K ≤ 12) (hs : stay.length ≤ 100) (hsub : ∀ p ∈ live, p.1 ∈ stay) (a : Nat) (f : Tab) (ha : (a, f) ∈ live) (i : Nat) (hi : i < 64) :
    Calls Try.prog 16 #[.pointer (some ⟨wb, 0, none⟩), .int .i64 a, .int .i64 i] wr fun e w' => e = .returned (.bool (f.getLsbD (asg nums i 6))) ∧ LW w0 wb vars nums stay live stay.length w' := by
  obtain ⟨O, C, hI, hO, hb0, hl⟩ := h
  refine (woodChosen hI hK hs a f (hl _ ha) i hi).mono ?_
  rintro e w' ⟨h1, C', hst, ho, O', hI', hg⟩
  obtain ⟨h4, h5⟩ := below_only hO hb0 ho hg
  exact ⟨h1, O', C', hI', h4, h5, fun p hp => (hst _ (hsub p hp)).trans (hl p hp)⟩

theorem LW.stays {w0 wr : World} {wb : Nat} {vars nums stay : List Nat} {live : List (Nat × Tab)} {K : Nat} (h : LW w0 wb vars nums stay live K wr) (r : Nat) (t : Tab) (hr : (r, t) ∈ live) :
    ∃ sv, wr.cell? ⟨wb, 13, none⟩ = some sv ∧ wr.ownsRow 0 3 1 sv stay.length (stay.map natv) ∧ ∀ w2 v' o, w2.ownsRow 0 3 1 v' (stay.length + 1) (stay.map natv ++ [natv r]) → (wr.alloc o).grownBy w2 sv.ownBlock → Placed (wr.alloc o) sv v' →
      w2.cell? ⟨wb, 13, none⟩ = some sv ∧ w2.frozen? ⟨wb, 13, none⟩ = false ∧ LW w0 wb vars nums (stay ++ [r]) live K (w2.setCell ⟨wb, 13, none⟩ v') := by
  obtain ⟨O, C, ⟨x, sv, Oc, hA, hok⟩, hO, hb0, hl⟩ := h
  refine ⟨sv, hA.c.2.2.2.1, by have := hA.stay.1; rwa [List.length_map] at this, ?_⟩
  intro w2 v' o ho2 hgr hp
  obtain ⟨h1, h2, h3, O2, hA2, hg2⟩ := hA.stayed ho2 hgr hp
  obtain ⟨h4, h5⟩ := below_only hO hb0 h3 hg2
  refine ⟨h1, h2, O2, C, ⟨x, v', Oc, hA2, ⟨hok.vT, hok.n6, hok.ninj, hok.cap, hok.order, hok.nmlen, hok.names, ?_, hok.few⟩⟩, h4, h5, hl⟩
  intro q hq
  rcases List.mem_append.1 hq with a | a
  · exact hok.st q a
  · have : q = r := by simpa using a
    subst this
    exact ⟨t, hl _ hr⟩

end Go.Proofs.Ytebfmcafmojlaaa

/-
  copsekeep: Sized: Move, Nodes, Support, Collect and Live of a Wood's copse.
-/
namespace Go.Proofs.Ytebfmcafmojlaaa
open Go.RowKit Go.Maps
set_option linter.unusedSimpArgs false
set_option linter.unusedVariables false

theorem moveO_perm {o : List Nat} {v t : Nat} (hv : v ∈ o) : (moveO o v t).Perm o := by
  unfold moveO
  have h1 : ((o.erase v).take t ++ v :: (o.erase v).drop t).Perm (v :: ((o.erase v).take t ++ (o.erase v).drop t)) := List.perm_middle
  rw [List.take_append_drop] at h1
  exact h1.trans (List.perm_cons_erase hv).symm

theorem Ord6.move {o : List Nat} (h : Ord6 o) {v t : Nat} (hv : v < 6) : Ord6 (moveO o v t) := by
  have hp := moveO_perm (t := t) ((h.mem v).2 hv)
  exact ⟨hp.nodup_iff.2 h.nodup, fun u => hp.mem_iff.trans (h.mem u)⟩

theorem LW.ptr {w0 wr : World} {wb x : Nat} {vars nums stay : List Nat} {live : List (Nat × Tab)} {K : Nat} (h : LW w0 wb vars nums stay live K wr) (hc : wr.cell? ⟨wb, 0, none⟩ = some (.pointer (some ⟨x, 0, none⟩))) :
    ∃ O C sv Oc, WoodAt O wr wb x C vars nums stay sv Oc ∧ WoodOk C vars nums stay K ∧ (∀ b, O b → w0.heap.size ≤ b) ∧ Below w0.heap.size w0 wr ∧ ∀ p ∈ live, C.T p.1 = some p.2 := by
  obtain ⟨O, C, ⟨x', sv, Oc, hA, hok⟩, hO, hb0, hl⟩ := h
  have h1 := hA.c.1
  rw [hc] at h1
  simp only [Option.some.injEq, Value.pointer.injEq, Addr.mk.injEq, and_true] at h1
  subst h1
  exact ⟨O, C, sv, Oc, hA, hok, hO, hb0, hl⟩

theorem LW.move {w0 wr : World} {wb x : Nat} {vars nums stay : List Nat} {live : List (Nat × Tab)} {K : Nat} (h : LW w0 wb vars nums stay live K wr) (hc : wr.cell? ⟨wb, 0, none⟩ = some (.pointer (some ⟨x, 0, none⟩))) (hK : K ≤ 19) (i t : Nat) (hi : i < 6) (ht : t < 6) :
    Calls Try.prog 17 #[.pointer (some ⟨x, 0, none⟩), .string (letS i), .int .i64 (t : Int)] wr fun e w' => e = .returned (.int .i64 0) ∧ w'.cell? ⟨wb, 0, none⟩ = some (.pointer (some ⟨x, 0, none⟩)) ∧ LW w0 wb vars nums stay live K w' := by
  obtain ⟨O, C, sv, Oc, hA, hok, hO, hb0, hl⟩ := h.ptr hc
  obtain ⟨Lt, hL⟩ := hA.cop.lists
  have hord := hok.order.move (t := t) (hok.n6 i hi)
  refine (copseMove_is hA.cop Lt hL (letS i) (nums.getD i 0) t (hok.names i hi) (by rw [hok.nmlen]; exact ht)).mono ?_
  rintro e w' (⟨hf, _⟩ | ⟨_, he, hst⟩)
  · exfalso
    obtain ⟨F, hF, hf'⟩ := hok.few
    have := all_leO hord F Lt (fun f hf => by
      obtain ⟨r, hr⟩ := (hL f).2 (.inl hf)
      exact hf' r f hr)
    unfold fullM at hf
    rw [hok.cap] at hf
    omega
  · obtain ⟨ho, O', Oc', hA', hg⟩ := hA.copped hst
    obtain ⟨h4, h5⟩ := below_only hO hb0 ho hg
    exact ⟨he, hA'.c.1, O', moveC C (nums.getD i 0) t, ⟨x, sv, Oc', hA', ⟨hok.vT, hok.n6, hok.ninj, hok.cap, hord, hok.nmlen, hok.names, hok.st, hok.few⟩⟩, h4, h5, hl⟩

theorem LW.nodes {w0 wr W : World} {wb x : Nat} {vars nums stay : List Nat} {live : List (Nat × Tab)} {K : Nat} (h : LW w0 wb vars nums stay live K wr) (hc : wr.cell? ⟨wb, 0, none⟩ = some (.pointer (some ⟨x, 0, none⟩))) (hb : Below wr.heap.size wr W) (hs : List Nat) (fs : List Tab) (n : Nat) (hlen : hs.length ≤ 10) (hT : ∀ (T : Nat → Option Tab), (∀ p ∈ live, T p.1 = some p.2) → hs.map T = fs.map some) (hn : ∀ o, Ord6 o → (allT o fs).length = n) (fv : Value) (hr : Reads W.heap.size W fv (hs.map natv)) :
    Calls Try.prog 19 #[.pointer (some ⟨x, 0, none⟩), fv] W fun e w' => e = .returned (.tuple #[.int .i64 (n : Nat), .int .i64 0]) ∧ w'.cell? ⟨wb, 0, none⟩ = some (.pointer (some ⟨x, 0, none⟩)) ∧ LW w0 wb vars nums stay live K w' := by
  have hwl : wb < wr.heap.size := by
    obtain ⟨O, C, sv, Oc, hA, _⟩ := h.ptr hc
    exact hA.lt wb hA.self
  obtain ⟨O, C, sv, Oc, hA, hok, hO, hb0, hl⟩ := (h.below hb).ptr ((hb.cell (p := ⟨wb, 0, none⟩) hwl).trans hc)
  refine (copseNodes_is hA.cop hs fs fv hr (by omega) (hT C.T hl)).mono ?_
  rintro e w' ⟨he, hst⟩
  rw [hn _ hok.order] at he
  obtain ⟨ho, O', Oc', hA', hg⟩ := hA.copped hst
  obtain ⟨h4, h5⟩ := below_only hO hb0 ho hg
  exact ⟨he, hA'.c.1, O', C, ⟨x, sv, Oc', hA', hok⟩, h4, h5, hl⟩

theorem size_sup {o ns : List Nat} (ho : Ord6 o) (h : ∀ v ∈ ns, v < 6) (hd : ns.Nodup) : (supT o [oddF ns]).length = ns.length := by
  have e : supT o [oddF ns] = o.filter (fun u => decide (u ∈ ns)) := by
    unfold supT
    apply List.filter_congr
    intro u hu
    simp only [List.any_cons, List.any_nil, Bool.or_false]
    exact oddF_on h (ho.lt u hu) hd
  rw [e]
  have hp : (o.filter (fun u => decide (u ∈ ns))).Perm ns := by
    rw [List.perm_ext_iff_of_nodup (ho.nodup.filter _) hd]
    intro a
    rw [List.mem_filter, ho.mem]
    constructor
    · rintro ⟨_, h2⟩; exact of_decide_eq_true h2
    · intro h1; exact ⟨h a h1, decide_eq_true h1⟩
  exact hp.length_eq

theorem LW.support {w0 wr : World} {wb x : Nat} {vars nums stay : List Nat} {live : List (Nat × Tab)} {K : Nat} (h : LW w0 wb vars nums stay live K wr) (hc : wr.cell? ⟨wb, 0, none⟩ = some (.pointer (some ⟨x, 0, none⟩))) (a : Nat) (ns : List Nat) (ha : (a, oddF ns) ∈ live) (h6 : ∀ v ∈ ns, v < 6) (hd : ns.Nodup) :
    Calls Try.prog 20 #[.pointer (some ⟨x, 0, none⟩), .int .i64 (a : Nat)] wr fun e w' => (∃ ao cap, e = .returned (.tuple #[.slice ao ns.length cap, .int .i64 0])) ∧ w'.cell? ⟨wb, 0, none⟩ = some (.pointer (some ⟨x, 0, none⟩)) ∧ LW w0 wb vars nums stay live K w' := by
  have h' := h
  obtain ⟨O, C, sv, Oc, hA, hok, hO, hb0, hl⟩ := h.ptr hc
  refine (copseSupport_is hA.cop a _ (hl _ ha)).mono ?_
  rintro e w' ⟨ao, cap, he, _, hb⟩
  rw [size_sup hok.order h6 hd] at he
  exact ⟨⟨ao, cap, he⟩, (hb.cell (p := ⟨wb, 0, none⟩) (hA.lt wb hA.self)).trans hc, h'.below hb⟩

/-- Behind Collect. -/
def CollW (w0 : World) (wb x n : Nat) (e : Ending) (w' : World) : Prop :=
  e = .returned (.int .i64 0) ∧ w'.cell? ⟨wb, 0, none⟩ = some (.pointer (some ⟨x, 0, none⟩)) ∧ w'.cell? ⟨wb, 14, none⟩ = some (.bool true) ∧ Below w0.heap.size w0 w' ∧ Calls Try.prog 22 #[.pointer (some ⟨x, 0, none⟩)] w' fun e w'' => e = .returned (.int .i64 (n : Nat)) ∧ w'' = w'

theorem LW.collect {w0 wr W : World} {wb x : Nat} {vars nums stay : List Nat} {live : List (Nat × Tab)} {K : Nat} (h : LW w0 wb vars nums stay live K wr) (hc : wr.cell? ⟨wb, 0, none⟩ = some (.pointer (some ⟨x, 0, none⟩))) (hb : Below wr.heap.size wr W) (a b : Nat) (f g : Tab) (n : Nat) (ha : (a, f) ∈ live) (hg : (b, g) ∈ live) (hn : ∀ o, Ord6 o → (allT o [f, g]).length = n) (fv : Value) (hr : Reads W.heap.size W fv ([a, b].map natv)) (hfv : ∀ ad n c, fv = .slice (some ad) n c → wr.heap.size ≤ ad.block) :
    Calls Try.prog 21 #[.pointer (some ⟨x, 0, none⟩), fv] W (CollW w0 wb x n) := by
  obtain ⟨O0, C0, sv0, Oc0, hA0, hok0, hO0, hb00, hl0⟩ := h.ptr hc
  have hA := WoodAt.below hA0 hb
  refine (copseCollect_is hA.cop [a, b] ?_ fv hr ?_ (by simp)).mono ?_
  · intro y hy
    simp only [List.mem_cons, List.not_mem_nil, or_false] at hy
    rcases hy with rfl | rfl
    · exact ⟨f, hl0 _ ha⟩
    · exact ⟨g, hl0 _ hg⟩
  · intro ad n c e hO
    have h1 := hfv ad n c e
    have h2 := hA0.lt _ (hA0.oc _ hO)
    omega
  · rintro e w' ⟨he, hst⟩
    obtain ⟨ho, O', Oc', hA', hg'⟩ := hA.copped hst
    obtain ⟨h4, h5⟩ := below_only hO0 (hb00.trans (hb.mono hb00.size)) ho hg'
    refine ⟨he, hA'.c.1, hA'.c.2.2.2.2.1, h5, ?_⟩
    have hcon := hA.cop.consts
    have hL : Lists (collC C0 [a, b]) [f, g] := by
      intro t
      constructor
      · rintro ⟨q, hq⟩
        obtain ⟨h1, h2⟩ := collC_T.1 hq
        rcases h1 with e | e | e
        · subst e; rw [hcon.2] at h2; cases h2; exact .inr (.inr rfl)
        · subst e; rw [hcon.1] at h2; cases h2; exact .inr (.inl rfl)
        · simp only [List.mem_cons, List.not_mem_nil, or_false] at e
          rcases e with e | e
          · subst e
            have : C0.T q = some f := hl0 _ ha
            rw [this] at h2; cases h2; exact .inl (by simp)
          · subst e
            have : C0.T q = some g := hl0 _ hg
            rw [this] at h2; cases h2; exact .inl (by simp)
      · rintro (e | e | e)
        · simp only [List.mem_cons, List.not_mem_nil, or_false] at e
          rcases e with e | e
          · subst e; exact ⟨a, collC_T.2 ⟨.inr (.inr (by simp)), hl0 _ ha⟩⟩
          · subst e; exact ⟨b, collC_T.2 ⟨.inr (.inr (by simp)), hl0 _ hg⟩⟩
        · subst e; exact ⟨1, collC_T.2 ⟨.inr (.inl rfl), hcon.1⟩⟩
        · subst e; exact ⟨0, collC_T.2 ⟨.inl rfl, hcon.2⟩⟩
    have := copseLive_is hA'.cop [f, g] hL
    rw [hn _ (show Ord6 (collC C0 [a, b]).order from hok0.order)] at this
    exact this

theorem built_reads (w : World) (hs : List Nat) (hne : hs ≠ []) : Reads (w.alloc (.cells (hs.map natv).toArray 3)).heap.size (w.alloc (.cells (hs.map natv).toArray 3)) (.slice (some ⟨w.heap.size, 0, none⟩) hs.length hs.length) (hs.map natv) := by
  refine .inr ⟨w.heap.size, 0, hs.length, by rw [List.length_map], by simp, ?_⟩
  intro i hi
  have hh : (w.alloc (.cells (hs.map natv).toArray 3)).heap[w.heap.size]? = some (.cells (hs.map natv).toArray 3 (0, 0)) := heap_alloc_new w _
  rw [cell_of_heap hh, Nat.zero_add]
  rw [List.getD_eq_getElem?_getD, List.getElem?_eq_getElem hi]
  have hi' : i < hs.length := by rwa [List.length_map] at hi
  simp [hi']

theorem LW.nodesB {w0 wr : World} {wb x : Nat} {vars nums stay : List Nat} {live : List (Nat × Tab)} {K : Nat} (h : LW w0 wb vars nums stay live K wr) (hc : wr.cell? ⟨wb, 0, none⟩ = some (.pointer (some ⟨x, 0, none⟩))) (hs : List Nat) (fs : List Tab) (n : Nat) (hne : hs ≠ []) (hlen : hs.length ≤ 10) (hT : ∀ (T : Nat → Option Tab), (∀ p ∈ live, T p.1 = some p.2) → hs.map T = fs.map some) (hn : ∀ o, Ord6 o → (allT o fs).length = n) :
    Calls Try.prog 19 #[.pointer (some ⟨x, 0, none⟩), .slice (some ⟨wr.heap.size, 0, none⟩) hs.length hs.length] (wr.alloc (.cells (hs.map natv).toArray 3)) fun e w' => e = .returned (.tuple #[.int .i64 (n : Nat), .int .i64 0]) ∧ w'.cell? ⟨wb, 0, none⟩ = some (.pointer (some ⟨x, 0, none⟩)) ∧ LW w0 wb vars nums stay live K w' :=
  h.nodes hc ((Below.refl _ wr).alloc (Nat.le_refl _) _) hs fs n hlen hT hn _ (built_reads wr hs hne)

/-- The three counts of Sized. -/
theorem LW.nodes1 {w0 wr : World} {wb x : Nat} {vars nums stay : List Nat} {live : List (Nat × Tab)} {K : Nat} (h : LW w0 wb vars nums stay live K wr) (hc : wr.cell? ⟨wb, 0, none⟩ = some (.pointer (some ⟨x, 0, none⟩))) (ns : List Nat) (h6 : ∀ v ∈ ns, v < 6) (hd : ns.Nodup) (k : Nat) (hk : ns.length = 1 + k) (a : Nat) (ha : (a, allF ns) ∈ live) :
    Calls Try.prog 19 #[.pointer (some ⟨x, 0, none⟩), .slice (some ⟨wr.heap.size, 0, none⟩) 1 1] (wr.alloc (.cells #[.int .i64 (a : Nat)] 3)) fun e w' => e = .returned (.tuple #[.int .i64 (1 + (k : Int)), .int .i64 0]) ∧ w'.cell? ⟨wb, 0, none⟩ = some (.pointer (some ⟨x, 0, none⟩)) ∧ LW w0 wb vars nums stay live K w' := by
  have := h.nodesB hc [a] [allF ns] (1 + k) (by simp) (by simp) (fun T hT => by simp [hT _ ha]) (fun o ho => (size_all ho h6 hd).trans hk)
  simp only [Int.natCast_add, Int.natCast_one] at this
  exact this

theorem LW.nodes2 {w0 wr : World} {wb x : Nat} {vars nums stay : List Nat} {live : List (Nat × Tab)} {K : Nat} (h : LW w0 wb vars nums stay live K wr) (hc : wr.cell? ⟨wb, 0, none⟩ = some (.pointer (some ⟨x, 0, none⟩))) (ns : List Nat) (h6 : ∀ v ∈ ns, v < 6) (hd : ns.Nodup) (k : Nat) (hk : ns.length = 1 + k) (a b : Nat) (ha : (a, oddF ns) ∈ live) (hb : (b, ~~~ oddF ns) ∈ live) :
    Calls Try.prog 19 #[.pointer (some ⟨x, 0, none⟩), .slice (some ⟨wr.heap.size, 0, none⟩) 2 2] (wr.alloc (.cells #[.int .i64 (a : Nat), .int .i64 (b : Nat)] 3)) fun e w' => e = .returned (.tuple #[.int .i64 (1 + (k : Int)), .int .i64 0]) ∧ w'.cell? ⟨wb, 0, none⟩ = some (.pointer (some ⟨x, 0, none⟩)) ∧ LW w0 wb vars nums stay live K w' := by
  have := h.nodesB hc [a, b] [oddF ns, ~~~ oddF ns] (1 + k) (by simp) (by simp) (fun T hT => by simp [hT _ ha, hT _ hb]) (fun o ho => (size_odd ho h6 hd).trans hk)
  simp only [Int.natCast_add, Int.natCast_one] at this
  exact this

theorem LW.nodes3 {w0 wr : World} {wb x : Nat} {vars nums stay : List Nat} {live : List (Nat × Tab)} {K : Nat} (h : LW w0 wb vars nums stay live K wr) (hc : wr.cell? ⟨wb, 0, none⟩ = some (.pointer (some ⟨x, 0, none⟩))) (ns : List Nat) (h6 : ∀ v ∈ ns, v < 6) (hd : ns.Nodup) (k : Nat) (hk : ns.length = 1 + k) (a b c : Nat) (ha : (a, allF ns) ∈ live) (hb : (b, oddF ns) ∈ live) (hcc : (c, ~~~ allF ns) ∈ live) :
    Calls Try.prog 19 #[.pointer (some ⟨x, 0, none⟩), .slice (some ⟨wr.heap.size, 0, none⟩) 3 3] (wr.alloc (.cells #[.int .i64 (a : Nat), .int .i64 (b : Nat), .int .i64 (c : Nat)] 3)) fun e w' => e = .returned (.tuple #[.int .i64 (2 * (1 + (k : Int)) - 1), .int .i64 0]) ∧ w'.cell? ⟨wb, 0, none⟩ = some (.pointer (some ⟨x, 0, none⟩)) ∧ LW w0 wb vars nums stay live K w' := by
  have := h.nodesB hc [a, b, c] [allF ns, oddF ns, ~~~ allF ns] (1 + 2 * k) (by simp) (by simp) (fun T hT => by simp [hT _ ha, hT _ hb, hT _ hcc]) (fun o ho => (size_three ho h6 hd (by intro e; rw [e] at hk; simp at hk; omega)).trans (by omega))
  have e : ((1 + 2 * k : Nat) : Int) = 2 * (1 + (k : Int)) - 1 := by omega
  rw [e] at this
  exact this

theorem LW.collect2 {w0 wr : World} {wb x : Nat} {vars nums stay : List Nat} {live : List (Nat × Tab)} {K : Nat} (h : LW w0 wb vars nums stay live K wr) (hc : wr.cell? ⟨wb, 0, none⟩ = some (.pointer (some ⟨x, 0, none⟩))) (ns : List Nat) (h6 : ∀ v ∈ ns, v < 6) (hd : ns.Nodup) (k : Nat) (hk : ns.length = 1 + k) (a b : Nat) (ha : (a, allF ns) ∈ live) (hb : (b, oddF ns) ∈ live) :
    Calls Try.prog 21 #[.pointer (some ⟨x, 0, none⟩), .slice (some ⟨wr.heap.size, 0, none⟩) 2 2] (wr.alloc (.cells #[.int .i64 (a : Nat), .int .i64 (b : Nat)] 3)) fun e w' => e = .returned (.int .i64 0) ∧ w'.cell? ⟨wb, 0, none⟩ = some (.pointer (some ⟨x, 0, none⟩)) ∧ w'.cell? ⟨wb, 14, none⟩ = some (.bool true) ∧ Below w0.heap.size w0 w' ∧ Calls Try.prog 22 #[.pointer (some ⟨x, 0, none⟩)] w' fun e w'' => e = .returned (.int .i64 (2 * (1 + (k : Int)) - 1)) ∧ w'' = w' := by
  have := h.collect hc ((Below.refl _ wr).alloc (Nat.le_refl _) (.cells ([a, b].map natv).toArray 3)) a b (allF ns) (oddF ns) (1 + 2 * k) ha hb (fun o ho => (size_two ho h6 hd (by intro e; rw [e] at hk; simp at hk; omega)).trans (by omega)) _ (built_reads wr [a, b] (by simp)) (by
    intro ad n c e
    simp only [Value.slice.injEq, Option.some.injEq] at e
    rw [← e.1]
    exact Nat.le_refl _)
  have e : ((1 + 2 * k : Nat) : Int) = 2 * (1 + (k : Int)) - 1 := by omega
  unfold CollW at this
  rw [e] at this
  exact this

theorem LW.support1 {w0 wr : World} {wb x : Nat} {vars nums stay : List Nat} {live : List (Nat × Tab)} {K : Nat} (h : LW w0 wb vars nums stay live K wr) (hc : wr.cell? ⟨wb, 0, none⟩ = some (.pointer (some ⟨x, 0, none⟩))) (ns : List Nat) (h6 : ∀ v ∈ ns, v < 6) (hd : ns.Nodup) (k : Nat) (hk : ns.length = 1 + k) (a : Nat) (ha : (a, oddF ns) ∈ live) :
    Calls Try.prog 20 #[.pointer (some ⟨x, 0, none⟩), .int .i64 (a : Nat)] wr fun e w' => (∃ ao cap, e = .returned (.tuple #[.slice ao (1 + k) cap, .int .i64 0])) ∧ w'.cell? ⟨wb, 0, none⟩ = some (.pointer (some ⟨x, 0, none⟩)) ∧ LW w0 wb vars nums stay live K w' := by
  have := h.support hc a ns ha h6 hd
  rw [hk] at this
  exact this

/-- What Sized has made behind i rounds. -/
def SizedAt (w : World) (wb : Nat) (vars nums : List Nat) (i all odd : Nat) (wr : World) : Prop :=
  ∃ ns : List Nat, ns.length = i ∧ ns.Nodup ∧ (∀ v ∈ ns, v < 6) ∧ (∀ v ∈ ns, ∃ j, j < i ∧ v = nums.getD j 0) ∧ LW w wb vars nums [] [(all, allF ns), (odd, oddF ns)] (2 + 3 * (i - 1)) wr

theorem perm_get {nums : List Nat} (h : Perm6 nums) {i j : Nat} (hi : i < 6) (hj : j < 6) (e : nums.getD i 0 = nums.getD j 0) : i = j := h.inj i j hi hj e

theorem SizedAt.start {w wr : World} {wb : Nat} {vars nums : List Nat} {live : List (Nat × Tab)} (h : LW w wb vars nums [] live 2 wr) : SizedAt w wb vars nums 1 (vars.getD 0 0) (vars.getD 0 0) wr := by
  have hp := h.c.2.2.2
  have h0 := hp.lt 0 (by omega)
  refine ⟨[nums.getD 0 0], rfl, by simp, fun v hv => by rw [List.mem_singleton.1 hv]; exact h0, fun v hv => ⟨0, by omega, List.mem_singleton.1 hv⟩, ?_⟩
  obtain ⟨e1, e2⟩ := odd_one _ h0
  rw [e1, e2]
  exact (h.more 0 (by omega)).sub (by simp)

end Go.Proofs.Ytebfmcafmojlaaa

