/-
  copselaw.World: begin, where New goes well.
-/
import Derived.Test.YtebfmcafmojlaaaGreatDoorT38
namespace Go.Proofs.YtebfmcafmojlaaaGreatDoor
open Go.RowKit
set_option linter.unusedSimpArgs false
set_option linter.unusedVariables false

theorem Tryz.infoTwinP : (Tryz.prog.info? 109).map (fun i => (i.zero, i.size, i.bytes)) = some (some (.pointer none), 1, 8) := by kernel_rfl

/-- The twin's box, the box of its two constants, and the store that joins them. -/
def twBox (x r : Nat) : Obj := .cells #[.pointer (some ⟨x, 0, none⟩), .pointer (some ⟨r, 0, none⟩), .slice none 0 0] 108
def goBox (cF cT : Nat) : Obj := .cells #[.int .i64 (cF : Int), .int .u64 0, .int .i64 (cT : Int), .int .u64 18446744073709551615] 173
def begW (w5 : World) (tb cF cT : Nat) : World := (w5.alloc (goBox cF cT)).setCell ⟨tb, 2, none⟩ (.slice (some ⟨w5.heap.size, 0, none⟩) 2 2)

structure BegMid (I : (Nat → Prop) → World → Nat → CopS → Prop) (cF cT : Nat) (w W : World) (wb tb g x r : Nat) (L : LawS) (OL K OX OR : Nat → Prop) (av tv mv iv nv : Value) (cap : Int) : Prop where
  law : LawAt OL W wb L av tv mv iv nv
  kept : Kept K W L
  dk : ∀ b, OL b → ¬ K b
  st : TwSt I W tb x r ⟨cap, [], [], T0 cF cT⟩ ⟨cap, [], [], []⟩ [(cF, 0), (cT, onesT)] (.slice (some ⟨g, 0, none⟩) 2 2) (fun b => b = tb ∨ b = g) OX OR
  below : Below w.heap.size w W
  new : ∀ b, (b = tb ∨ b = g) ∨ OX b ∨ OR b → w.heap.size ≤ b
  old : ∀ b, OL b ∨ K b → b < w.heap.size

theorem begun_mid {I : (Nat → Prop) → World → Nat → CopS → Prop} {cF cT : Nat} (sp : CopseSpec I cF cT) {w w2 w3 w4 w5 : World} {wb x r : Nat} {L : LawS} {OL K OX OR : Nat → Prop} {av tv mv iv nv : Value} {cap : Int}
    (hLa : LawAt OL w wb L av tv mv iv nv) (hK : Kept K w L) (hdk : ∀ b, OL b → ¬ K b) (hbw2 : Below w.heap.size w w2) (hI : I OX w2 x ⟨cap, [], [], T0 cF cT⟩) (hXg : ∀ b, OX b → w.heap.size ≤ b) (hb3 : Below w2.heap.size w2 w3) (hR : RefIs OR w3 r ⟨cap, [], [], []⟩) (hRg : ∀ b, OR b → w2.heap.size ≤ b)
    (hb4 : Below (w3.heap.size + 1) (w3.alloc (twBox x r)) w4) (hb5 : Below w4.heap.size w4 w5) :
    BegMid I cF cT w (begW w5 w3.heap.size cF cT) wb w3.heap.size w5.heap.size x r L OL K OX OR av tv mv iv nv cap := by
  have hs2 := hbw2.size
  have hs3 := hb3.size
  have hs4 : w3.heap.size + 1 ≤ w4.heap.size := by have := hb4.size; simpa using this
  have hs5 := hb5.size
  have h45 : Below (w3.heap.size + 1) (w3.alloc (twBox x r)) w5 := hb4.trans (hb5.mono hs4)
  have htb5 : w5.heap[w3.heap.size]? = some (twBox x r) := (h45.block w3.heap.size (by omega)).trans (heap_alloc_new w3 _)
  have hW : ∀ k, k < w3.heap.size → (begW w5 w3.heap.size cF cT).heap[k]? = w3.heap[k]? := by
    intro k hk
    unfold begW
    rw [Below.heap_setCell _ _ _ _ (by show k ≠ w3.heap.size; omega), Below.heap_alloc _ _ _ (by omega), h45.block k (by omega), Below.heap_alloc _ _ _ hk]
  have hWs : (begW w5 w3.heap.size cF cT).heap.size = w5.heap.size + 1 := by unfold begW; simp [World.setCell]
  have hWtb : (begW w5 w3.heap.size cF cT).heap[w3.heap.size]? = some (.cells #[.pointer (some ⟨x, 0, none⟩), .pointer (some ⟨r, 0, none⟩), .slice (some ⟨w5.heap.size, 0, none⟩) 2 2] 108 (0, 0)) := by
    unfold begW
    have h1 : (w5.alloc (goBox cF cT)).heap[w3.heap.size]? = some (.cells #[.pointer (some ⟨x, 0, none⟩), .pointer (some ⟨r, 0, none⟩), .slice none 0 0] 108 (0, 0)) := by rw [Below.heap_alloc _ _ _ (by omega)]; exact htb5
    rw [heap_setCell_at h1]
    rfl
  have hWg : (begW w5 w3.heap.size cF cT).heap[w5.heap.size]? = some (.cells #[.int .i64 (cF : Int), .int .u64 0, .int .i64 (cT : Int), .int .u64 18446744073709551615] 173 (0, 0)) := by
    unfold begW
    rw [Below.heap_setCell _ _ _ _ (by show w5.heap.size ≠ w3.heap.size; omega)]
    exact heap_alloc_new w5 _
  have hbW : Below w3.heap.size w3 (begW w5 w3.heap.size cF cT) := by
    unfold begW
    have h0 : Below w3.heap.size w3 w5 := ((Below.refl w3.heap.size w3).alloc (Nat.le_refl _) (twBox x r)).trans (h45.mono (by omega))
    exact (h0.alloc h0.size _).setCell (Nat.le_refl _) _
  have hbww : Below w.heap.size w (begW w5 w3.heap.size cF cT) := (hbw2.trans (hb3.mono hs2)).trans (hbW.mono (by omega))
  have hI3 : I OX w3 x ⟨cap, [], [], T0 cF cT⟩ := sp.keep hI hb3.size (fun k hk => hb3.block k (sp.lt hI k hk))
  have hX2 := sp.lt hI
  refine ⟨hLa.below hbww, hK.keep hbww.size (fun k hk => hbww.block k (hK.lt k hk)), hdk, ⟨⟨?_, .inl rfl, hWtb, ?_, ?_, ?_⟩, ?_, ?_, ?_, ?_, ?_⟩, hbww, ?_, ?_⟩
  · rintro b (e | e) <;> omega
  · refine .inl ⟨by simp [gots], .inr ⟨w5.heap.size, 2, #[.int .i64 (cF : Int), .int .u64 0, .int .i64 (cT : Int), .int .u64 18446744073709551615], rfl, Nat.zero_le _, hWg, Nat.le_refl _, by decide, rfl, ?_⟩⟩
    rfl
  · intro k hk
    simp [Value.ownBlock] at hk
    exact .inr hk.symm
  · simp [Value.ownBlock]
    omega
  · exact sp.keep hI3 hbW.size (fun k hk => hbW.block k (sp.lt hI3 k hk))
  · exact hR.below hbW
  · rintro b (e | e) hx
    · have := hX2 b hx; omega
    · have := hX2 b hx; omega
  · rintro b (e | e) hx
    · have := hR.lt b hx; omega
    · have := hR.lt b hx; omega
  · intro b hx hr
    have := hX2 b hx
    have := hRg b hr
    omega
  · rintro b ((e | e) | e | e)
    · omega
    · omega
    · exact hXg b e
    · have := hRg b e; omega
  · rintro b (e | e)
    · exact hLa.lt b e
    · exact hK.lt b e

theorem begun_tb {w3 w4 w5 : World} {x r : Nat} {o : Obj} (hb4 : Below (w3.heap.size + 1) (w3.alloc (twBox x r)) w4) (hb5 : Below w4.heap.size w4 w5) : (w5.alloc o).heap[w3.heap.size]? = some (.cells #[.pointer (some ⟨x, 0, none⟩), .pointer (some ⟨r, 0, none⟩), .slice none 0 0] 108 (0, 0)) := by
  have hs4 : w3.heap.size + 1 ≤ w4.heap.size := by have := hb4.size; simpa using this
  have hs5 := hb5.size
  rw [Below.heap_alloc _ _ _ (by omega), hb5.block _ (by omega), hb4.block _ (by omega)]
  exact heap_alloc_new w3 _

theorem begun_post {I : (Nat → Prop) → World → Nat → CopS → Prop} {cF cT : Nat} (sp : CopseSpec I cF cT) {w W w8 : World} {wb tb g x r : Nat} {L : LawS} {OL K OX OR : Nat → Prop} {av tv mv iv nv v' : Value} {cap : Int} {o : Obj}
    (h : BegMid I cF cT w W wb tb g x r L OL K OX OR av tv mv iv nv cap) (hg : (W.alloc o).grownBy w8 av.ownBlock) (hp : Placed (W.alloc o) av v') (ho : w8.ownsRow 0 109 1 v' (L.tbs.length + 1) ((L.tbs.map tptr) ++ [tptr tb])) :
    BeginPost I cF cT w wb L OL K cap (w8.setCell ⟨wb, 0, none⟩ v') := by
  obtain ⟨hlw, hon⟩ := h.law.grow_tbs tb hg hp ho
  have hsW := h.below.size
  have hown : ∀ b, v'.ownBlock = some b → OL b ∨ W.heap.size ≤ b := by
    intro b hb
    rcases hp b hb with e | e
    · exact .inl (h.law.tbs.2 b e)
    · simp at e; exact .inr (by omega)
  have hltT : ∀ b, (b = tb ∨ b = g) ∨ OX b ∨ OR b → b < W.heap.size := by
    rintro b (e | e | e)
    · exact h.st.t.lt b e
    · exact sp.lt h.st.c b e
    · exact h.st.s.lt b e
  have hnot : ∀ b, (b = tb ∨ b = g) ∨ OX b ∨ OR b → ¬ OL b := fun b hb e => by have := h.new b hb; have := h.old b (.inl e); omega
  have hkeep : ∀ b, (b = tb ∨ b = g) ∨ OX b ∨ OR b → (w8.setCell ⟨wb, 0, none⟩ v').heap[b]? = W.heap[b]? := fun b hb => hon.block b (hltT b hb) (hnot b hb)
  have hst : TwSt I (w8.setCell ⟨wb, 0, none⟩ v') tb x r ⟨cap, [], [], T0 cF cT⟩ ⟨cap, [], [], []⟩ [(cF, 0), (cT, onesT)] (.slice (some ⟨g, 0, none⟩) 2 2) (fun b => b = tb ∨ b = g) OX OR :=
    ⟨h.st.t.keep hon.size (fun k hk => hkeep k (.inl hk)), sp.keep h.st.c hon.size (fun k hk => hkeep k (.inr (.inl hk))), h.st.s.keep hon.size (fun k hk => hkeep k (.inr (.inr hk))), h.st.d1, h.st.d2, h.st.d3⟩
  refine .inr ⟨tb, fun b => OL b ∨ v'.ownBlock = some b, fun b => (b = tb ∨ b = g) ∨ OX b ∨ OR b, ⟨⟨v', tv, mv, iv, nv, hlw⟩, ?_, ?_⟩, ⟨x, r, _, _, _, _, OX, OR, hst, twOk_new sp cap, fun b => Iff.rfl, rfl⟩, ?_, ?_, h.new, ?_⟩
  · have hk2 := h.kept.keep hon.size (fun k hk => hon.block k (h.kept.lt k hk) (fun e => h.dk k e hk))
    exact ⟨hk2.lt, hk2.tl, hk2.il, hk2.t, hk2.i⟩
  · rintro b (e | e) hk
    · exact h.dk b e hk
    · rcases hown b e with e2 | e2
      · exact h.dk b e2 hk
      · have := h.kept.lt b hk; omega
  · exact (only_of_below h.below OL).trans hon (Grows.refl _ _)
  · rintro b (e | e)
    · exact .inl e
    · rcases hown b e with e2 | e2
      · exact .inl e2
      · exact .inr (by omega)
  · intro b hb
    refine ⟨?_, fun e => by have := h.new b hb; have := h.old b (.inr e); omega⟩
    rintro (e | e)
    · exact hnot b hb e
    · rcases hown b e with e2 | e2
      · exact hnot b hb e2
      · have := hltT b hb; omega

theorem tbs_owns {I : (Nat → Prop) → World → Nat → CopS → Prop} {cF cT : Nat} {w W : World} {wb tb g x r : Nat} {L : LawS} {OL K OX OR : Nat → Prop} {av tv mv iv nv : Value} {cap : Int} {o : Obj} (h : BegMid I cF cT w W wb tb g x r L OL K OX OR av tv mv iv nv cap) : (W.alloc o).ownsRow 0 109 1 av L.tbs.length (L.tbs.map tptr) := by
  have := h.law.tbs.1.alloc o
  rwa [List.length_map] at this
theorem one_cell_ptr (a : Option Addr) : ∀ x ∈ [Value.pointer a], x.oneCell' = true := by intro x hx; simp at hx; subst hx; rfl

set_option maxHeartbeats 4000000 in
set_option maxRecDepth 20000 in
theorem begin_yes {I : (Nat → Prop) → World → Nat → CopS → Prop} {cF cT : Nat} (sp : CopseSpec I cF cT) {w : World} {wb : Nat} (o : OpS) (fv : Value) {L : LawS} {OL K : Nat → Prop} (hl : LawIs OL K w wb L) (htb : L.tbs.length ≤ 4000000) (ho : OpOk w o fv) (h1 : 1 ≤ o.a) (h2 : o.a ≤ 300) :
    Calls Tryz.prog 60 #[.pointer (some ⟨wb, 0, none⟩), opv o fv] w fun e w' => e = .returned (.bool true) ∧ BeginPost I cF cT w wb L OL K o.a w' := by
  obtain ⟨fao, fcap, rfl⟩ := reads_form ho.f
  obtain ⟨kd, on, oa, ov, F, os⟩ := o
  dsimp only at h1 h2 ⊢
  obtain ⟨⟨av, tv, mv, iv, nv, hLa⟩, hK, hdk⟩ := hl
  obtain ⟨aao, acap, rfl⟩ := owns_form hLa.tbs.1
  rw [List.length_map] at hLa
  have hnew := fun wq => sp.new_yes oa wq h1 h2
  have href := fun wq => refNew_is oa wq h1 h2
  have hcon1 := fun wq x OX (hc : I OX wq x ⟨oa, [], [], T0 cF cT⟩) => sp.const hc false
  have hcon2 := fun wq x OX (hc : I OX wq x ⟨oa, [], [], T0 cF cT⟩) => sp.const hc true
  simp only [if_true, if_false, Bool.false_eq_true] at hcon1 hcon2
  have hbw := (Below.refl w.heap.size w).alloc (Nat.le_refl _) (.cells #[.int .i64 kd, .int .i64 on, .int .i64 oa, .bool ov, .slice fao F.length fcap, .string os] 66)
  have hbl := Below.refl (w.heap.size + 1) (w.alloc (.cells #[.int .i64 kd, .int .i64 on, .int .i64 oa, .bool ov, .slice fao F.length fcap, .string os] 66))
  have hsz : w.heap.size + 1 ≤ (w.alloc (.cells #[.int .i64 kd, .int .i64 on, .int .i64 oa, .bool ov, .slice fao F.length fcap, .string os] 66)).heap.size := by simp
  have hne : ((cF : Int) == (cT : Int)) = false := by have := sp.ne; simp; omega
  have hne' : ¬ (cF : Int) = (cT : Int) := by have := sp.ne; omega
  have hm1 := sp.cFm
  have hm2 := sp.cTm
  unfold handleMax at hm1 hm2
  obtain ⟨i0, hi, hz0, hz1, hz2⟩ := info_parts Tryz.infoTwinP
  clear ho h1 h2
  unfold opv
  dsimp only
  go_enter Tryz.func60, Tryz.ntmps60
  go_wp2_with (first
    | (go_at_call 18; refine (hnew _).mono ?_; rintro e w2 ⟨x, OX, rfl, hI, hXg, hb2⟩; replace hXg := (fun b hb => Nat.le_trans hbw.size (hXg b hb)); replace hbw := hbw.trans (hb2.mono hbw.size); obtain ⟨d0, d1, d2, d3, d4, d5⟩ := box_cells (hbl.trans (hb2.mono hsz)))
    | (go_at_call 102; refine (href _).mono ?_; rintro e w3 ⟨r, OR, rfl, hR, hRg, hb3⟩; have hIt : I OX (w3.alloc (twBox x r)) x ⟨oa, [], [], T0 cF cT⟩ := sp.keep (sp.keep hI hb3.size (fun k hk => hb3.block k (sp.lt hI k hk))) (by simp) (fun k hk => Below.heap_alloc _ _ _ (Nat.lt_of_lt_of_le (sp.lt hI k hk) hb3.size)))
    | (go_at_call 103; refine (lawNum _ _).mono ?_; rintro e w9 ⟨rfl, hq⟩; replace hq := hq.symm; subst hq)
    | (go_at_call 23; refine (hcon1 _ _ _ hIt).mono ?_; rintro e w4 ⟨rfl, hb4⟩; clear hcon1; have hI4 := sp.keep hIt hb4.size (fun k hk => hb4.block k (sp.lt hIt k hk)))
    | (go_at_call 23; refine (hcon2 _ _ _ hI4).mono ?_; rintro e w5 ⟨rfl, hb5⟩; clear hcon2; have mid := begun_mid sp hLa hK hdk hbw hI hXg hb3 hR hRg (by simpa using hb4) hb5; have c0 := cell_of_heap (o := 0) mid.law.cells; simp only [List.getElem?_toArray, List.getElem?_cons_succ, List.getElem?_cons_zero, begW, goBox] at c0; have h5 := begun_tb (x := x) (r := r) (o := goBox cF cT) (by simpa using hb4) hb5; have f5 := frozen_of_heap (o := 2) h5; have g5 := cell_of_heap (o := 2) h5; simp only [List.getElem?_toArray, List.getElem?_cons_succ, List.getElem?_cons_zero, goBox] at f5 g5; clear h5)
    | (at_builtin; refine wpList_append_placed rfl (.tmp 57) (.tmp 59) 59 rfl 0 109 i0 (.pointer none) 1 8 Tryz.underlying59 hi hz0 hz1 hz2 rfl (by decide) _ _ _ rfl (tbs_owns mid) _ 1 1 [tptr w3.heap.size] rfl rfl ?_ ?_ ?_ ?_ ?_ ?_; exact cell_one_at _ _ _ _ (by simp [World.setCell]); exact one_cell_ptr _; exact le_maxLen (by omega); omega; exact Nat.zero_le _; intro v8 w8 hown8 hgr8 hpl8; have hfin := begun_post sp mid hgr8 hpl8 hown8; have h6 := law_cells mid.law hgr8 (row_ne_type mid.law.cells mid.law.tbs.1 (by decide)); have f8 := frozen_of_heap (o := 0) h6; have g8 := cell_of_heap (o := 0) h6; simp only [List.getElem?_toArray, List.getElem?_cons_succ, List.getElem?_cons_zero] at g8; obtain ⟨vao8, vcap8, rfl⟩ := owns_form hown8; clear hgr8 hpl8 hown8 h6))
  go_ret
  refine ⟨?_, hfin⟩
  show Ending.returned (.bool ((cF : Int) != (cT : Int))) = _
  rw [bne, hne]
  rfl

end Go.Proofs.YtebfmcafmojlaaaGreatDoor

/-
  copselaw.World: plays: the step is handed on.
-/
namespace Go.Proofs.YtebfmcafmojlaaaGreatDoor
open Go.RowKit
set_option linter.unusedSimpArgs false
set_option linter.unusedVariables false

/-- The World's row of twins, read at k. -/
theorem law_twin {O : Nat → Prop} {w : World} {wb : Nat} {L : LawS} {av tv mv iv nv : Value} (h : LawAt O w wb L av tv mv iv nv) {k : Nat} (hk : k < L.tbs.length) :
    ∃ g cap, av = .slice (some ⟨g, 0, none⟩) L.tbs.length cap ∧ g < w.heap.size ∧ w.cell? ⟨g, k, none⟩ = some (.pointer (some ⟨L.tbs.getD k 0, 0, none⟩)) := by
  rcases h.tbs.1.2 with ⟨rfl, hn⟩ | ⟨g, cap, cur, rfl, hb, hg, hnc, hcm, hcs, htake⟩
  · simp at hn; rw [hn] at hk; simp at hk
  · refine ⟨g, cap, by rw [List.length_map], (h.tbs.lt g rfl), ?_⟩
    have hc := h.tbs.1.cells (g := g) rfl
    have hadd : ∀ j, (⟨g, 0, none⟩ : Addr).add j = ⟨g, j, none⟩ := by intro j; unfold Addr.add; split <;> simp_all
    have h1 := hc k (tptr (L.tbs.getD k 0)) (by rw [List.getElem?_map, List.getD_eq_getElem?_getD, List.getElem?_eq_getElem hk]; rfl)
    rw [hadd] at h1
    exact h1

set_option maxHeartbeats 4000000 in
set_option maxRecDepth 20000 in
theorem plays_works {w : World} {wb : Nat} {L : LawS} {OL K : Nat → Prop} (hl : LawIs OL K w wb L) (htb : L.tbs.length ≤ 4000000) {k : Nat} (hk : k < L.tbs.length) {o : OpS} {fv : Value} (ho : OpOk w o fv) (hp : pickI o.on L.tbs.length = k) (hkd : o.kind = 3 ∨ o.kind = 4 ∨ o.kind = 5) {Q : World → Prop}
    (hq : ∀ w1, Below w.heap.size w w1 → Calls Tryz.prog 64 #[.pointer (some ⟨L.tbs.getD k 0, 0, none⟩), opv o fv] w1 fun e w' => e = .returned (.bool true) ∧ Q w') :
    Calls Tryz.prog 26 #[.pointer (some ⟨wb, 0, none⟩), opv o fv] w fun e w' => e = .returned (.bool true) ∧ Q w' := by
  obtain ⟨⟨av, tv, mv, iv, nv, hLa⟩, hK, hdk⟩ := hl
  obtain ⟨g, cap, rfl, hgl, hgk⟩ := law_twin hLa hk
  have hwl := hLa.lt wb hLa.self
  have hav : w.cell? ⟨wb, 0, none⟩ = some (.slice (some ⟨g, 0, none⟩) L.tbs.length cap) := by rw [cell_of_heap hLa.cells]; rfl
  have hon := ho.on
  obtain ⟨fao, fcap, rfl⟩ := reads_form ho.f
  obtain ⟨kd, on, oa, ov, F, os⟩ := o
  dsimp only at hkd hp hon
  have hpick := fun wq => lawPick on L.tbs.length wq hon.1 hon.2 (by omega) (by omega)
  rw [hp] at hpick
  clear hp hon ho hLa hK hdk
  generalize L.tbs.getD k 0 = tb at hgk hq
  generalize L.tbs.length = n at *
  have hbw := (Below.refl w.heap.size w).alloc (Nat.le_refl _) (.cells #[.int .i64 kd, .int .i64 on, .int .i64 oa, .bool ov, .slice fao F.length fcap, .string os] 66)
  unfold opv at hq ⊢
  dsimp only at hq ⊢
  rcases hkd with rfl | rfl | rfl
  · go_enter Tryz.func26, Tryz.ntmps26
    go_wp2_with fail
    go_region_held (fun w' => w'.cell? ⟨w.heap.size, 1, none⟩ = some (.int .i64 on) ∧ w'.cell? ⟨wb, 0, none⟩ = some (.slice (some ⟨g, 0, none⟩) n cap)) (go_keep) (first | (go_at_call 61; refine (hpick _).mono ?_; rintro e wp ⟨rfl, hqp⟩; replace hqp := hqp.symm; subst hqp))
    go_wp2_with (first | (go_at_call 64; refine (hq _ hbw.drew).mono ?_; rintro e w9 ⟨rfl, hfin⟩))
    go_ret
    exact ⟨rfl, hfin⟩
  · go_enter Tryz.func26, Tryz.ntmps26
    go_wp2_with fail
    go_region_held (fun w' => w'.cell? ⟨w.heap.size, 1, none⟩ = some (.int .i64 on) ∧ w'.cell? ⟨wb, 0, none⟩ = some (.slice (some ⟨g, 0, none⟩) n cap)) (go_keep) (first | (go_at_call 61; refine (hpick _).mono ?_; rintro e wp ⟨rfl, hqp⟩; replace hqp := hqp.symm; subst hqp))
    go_wp2_with (first | (go_at_call 64; refine (hq _ hbw.drew).mono ?_; rintro e w9 ⟨rfl, hfin⟩))
    go_ret
    exact ⟨rfl, hfin⟩
  · go_enter Tryz.func26, Tryz.ntmps26
    go_wp2_with fail
    go_region_held (fun w' => w'.cell? ⟨w.heap.size, 1, none⟩ = some (.int .i64 on) ∧ w'.cell? ⟨wb, 0, none⟩ = some (.slice (some ⟨g, 0, none⟩) n cap)) (go_keep) (first | (go_at_call 61; refine (hpick _).mono ?_; rintro e wp ⟨rfl, hqp⟩; replace hqp := hqp.symm; subst hqp))
    go_wp2_with (first | (go_at_call 64; refine (hq _ hbw.drew).mono ?_; rintro e w9 ⟨rfl, hfin⟩))
    go_ret
    exact ⟨rfl, hfin⟩

set_option maxHeartbeats 4000000 in
set_option maxRecDepth 20000 in
theorem plays_asks {w : World} {wb : Nat} {L : LawS} {OL K : Nat → Prop} (hl : LawIs OL K w wb L) (htb : L.tbs.length ≤ 4000000) {k : Nat} (hk : k < L.tbs.length) {o : OpS} {fv : Value} (ho : OpOk w o fv) (hp : pickI o.on L.tbs.length = k) (hkd : o.kind = 6 ∨ o.kind = 7 ∨ o.kind = 8) {Q : World → Prop}
    (hq : ∀ w1, Below w.heap.size w w1 → Calls Tryz.prog 65 #[.pointer (some ⟨wb, 0, none⟩), .pointer (some ⟨L.tbs.getD k 0, 0, none⟩), opv o fv] w1 fun e w' => e = .returned (.bool true) ∧ Q w') :
    Calls Tryz.prog 26 #[.pointer (some ⟨wb, 0, none⟩), opv o fv] w fun e w' => e = .returned (.bool true) ∧ Q w' := by
  obtain ⟨⟨av, tv, mv, iv, nv, hLa⟩, hK, hdk⟩ := hl
  obtain ⟨g, cap, rfl, hgl, hgk⟩ := law_twin hLa hk
  have hwl := hLa.lt wb hLa.self
  have hav : w.cell? ⟨wb, 0, none⟩ = some (.slice (some ⟨g, 0, none⟩) L.tbs.length cap) := by rw [cell_of_heap hLa.cells]; rfl
  have hon := ho.on
  obtain ⟨fao, fcap, rfl⟩ := reads_form ho.f
  obtain ⟨kd, on, oa, ov, F, os⟩ := o
  dsimp only at hkd hp hon
  have hpick := fun wq => lawPick on L.tbs.length wq hon.1 hon.2 (by omega) (by omega)
  rw [hp] at hpick
  clear hp hon ho hLa hK hdk
  generalize L.tbs.getD k 0 = tb at hgk hq
  generalize L.tbs.length = n at *
  have hbw := (Below.refl w.heap.size w).alloc (Nat.le_refl _) (.cells #[.int .i64 kd, .int .i64 on, .int .i64 oa, .bool ov, .slice fao F.length fcap, .string os] 66)
  unfold opv at hq ⊢
  dsimp only at hq ⊢
  rcases hkd with rfl | rfl | rfl
  · go_enter Tryz.func26, Tryz.ntmps26
    go_wp2_with fail
    go_region_held (fun w' => w'.cell? ⟨w.heap.size, 1, none⟩ = some (.int .i64 on) ∧ w'.cell? ⟨wb, 0, none⟩ = some (.slice (some ⟨g, 0, none⟩) n cap)) (go_keep) (first | (go_at_call 61; refine (hpick _).mono ?_; rintro e wp ⟨rfl, hqp⟩; replace hqp := hqp.symm; subst hqp))
    go_wp2_with (first | (go_at_call 65; refine (hq _ hbw.drew).mono ?_; rintro e w9 ⟨rfl, hfin⟩))
    go_ret
    exact ⟨rfl, hfin⟩
  · go_enter Tryz.func26, Tryz.ntmps26
    go_wp2_with fail
    go_region_held (fun w' => w'.cell? ⟨w.heap.size, 1, none⟩ = some (.int .i64 on) ∧ w'.cell? ⟨wb, 0, none⟩ = some (.slice (some ⟨g, 0, none⟩) n cap)) (go_keep) (first | (go_at_call 61; refine (hpick _).mono ?_; rintro e wp ⟨rfl, hqp⟩; replace hqp := hqp.symm; subst hqp))
    go_wp2_with (first | (go_at_call 65; refine (hq _ hbw.drew).mono ?_; rintro e w9 ⟨rfl, hfin⟩))
    go_ret
    exact ⟨rfl, hfin⟩
  · go_enter Tryz.func26, Tryz.ntmps26
    go_wp2_with fail
    go_region_held (fun w' => w'.cell? ⟨w.heap.size, 1, none⟩ = some (.int .i64 on) ∧ w'.cell? ⟨wb, 0, none⟩ = some (.slice (some ⟨g, 0, none⟩) n cap)) (go_keep) (first | (go_at_call 61; refine (hpick _).mono ?_; rintro e wp ⟨rfl, hqp⟩; replace hqp := hqp.symm; subst hqp))
    go_wp2_with (first | (go_at_call 65; refine (hq _ hbw.drew).mono ?_; rintro e w9 ⟨rfl, hfin⟩))
    go_ret
    exact ⟨rfl, hfin⟩

set_option maxHeartbeats 4000000 in
set_option maxRecDepth 20000 in
theorem plays_const {w : World} {wb : Nat} {L : LawS} {OL K : Nat → Prop} (hl : LawIs OL K w wb L) (htb : L.tbs.length ≤ 4000000) {k : Nat} (hk : k < L.tbs.length) {o : OpS} {fv : Value} (ho : OpOk w o fv) (hp : pickI o.on L.tbs.length = k) (hkd : o.kind = 9) {Q : World → Prop}
    (hq : ∀ w1, Below w.heap.size w w1 → Calls Tryz.prog 66 #[.pointer (some ⟨wb, 0, none⟩), .pointer (some ⟨L.tbs.getD k 0, 0, none⟩), opv o fv] w1 fun e w' => e = .returned (.bool true) ∧ Q w') :
    Calls Tryz.prog 26 #[.pointer (some ⟨wb, 0, none⟩), opv o fv] w fun e w' => e = .returned (.bool true) ∧ Q w' := by
  obtain ⟨⟨av, tv, mv, iv, nv, hLa⟩, hK, hdk⟩ := hl
  obtain ⟨g, cap, rfl, hgl, hgk⟩ := law_twin hLa hk
  have hwl := hLa.lt wb hLa.self
  have hav : w.cell? ⟨wb, 0, none⟩ = some (.slice (some ⟨g, 0, none⟩) L.tbs.length cap) := by rw [cell_of_heap hLa.cells]; rfl
  have hon := ho.on
  obtain ⟨fao, fcap, rfl⟩ := reads_form ho.f
  obtain ⟨kd, on, oa, ov, F, os⟩ := o
  dsimp only at hkd hp hon
  have hpick := fun wq => lawPick on L.tbs.length wq hon.1 hon.2 (by omega) (by omega)
  rw [hp] at hpick
  clear hp hon ho hLa hK hdk
  generalize L.tbs.getD k 0 = tb at hgk hq
  generalize L.tbs.length = n at *
  have hbw := (Below.refl w.heap.size w).alloc (Nat.le_refl _) (.cells #[.int .i64 kd, .int .i64 on, .int .i64 oa, .bool ov, .slice fao F.length fcap, .string os] 66)
  unfold opv at hq ⊢
  dsimp only at hq ⊢
  subst hkd
  go_enter Tryz.func26, Tryz.ntmps26
  go_wp2_with fail
  go_region_held (fun w' => w'.cell? ⟨w.heap.size, 1, none⟩ = some (.int .i64 on) ∧ w'.cell? ⟨wb, 0, none⟩ = some (.slice (some ⟨g, 0, none⟩) n cap)) (go_keep) (first | (go_at_call 61; refine (hpick _).mono ?_; rintro e wp ⟨rfl, hqp⟩; replace hqp := hqp.symm; subst hqp))
  go_wp2_with (first | (go_at_call 66; refine (hq _ hbw.drew).mono ?_; rintro e w9 ⟨rfl, hfin⟩))
  go_ret
  exact ⟨rfl, hfin⟩

set_option maxHeartbeats 4000000 in
set_option maxRecDepth 20000 in
theorem plays_begin {w : World} {wb : Nat} {o : OpS} {fv : Value} (ho : OpOk w o fv) (hkd : o.kind = 1) {Q : World → Prop}
    (hq : ∀ w1, Below w.heap.size w w1 → Calls Tryz.prog 60 #[.pointer (some ⟨wb, 0, none⟩), opv o fv] w1 fun e w' => e = .returned (.bool true) ∧ Q w') :
    Calls Tryz.prog 26 #[.pointer (some ⟨wb, 0, none⟩), opv o fv] w fun e w' => e = .returned (.bool true) ∧ Q w' := by
  obtain ⟨fao, fcap, rfl⟩ := reads_form ho.f
  obtain ⟨kd, on, oa, ov, F, os⟩ := o
  dsimp only at hkd
  subst hkd
  clear ho
  have hbw := (Below.refl w.heap.size w).alloc (Nat.le_refl _) (.cells #[.int .i64 1, .int .i64 on, .int .i64 oa, .bool ov, .slice fao F.length fcap, .string os] 66)
  unfold opv at hq ⊢
  dsimp only at hq ⊢
  go_enter Tryz.func26, Tryz.ntmps26
  go_wp2_with (first | (go_at_call 60; refine (hq _ hbw).mono ?_; rintro e w9 ⟨rfl, hfin⟩))
  go_ret
  exact ⟨rfl, hfin⟩

set_option maxHeartbeats 4000000 in
set_option maxRecDepth 20000 in
theorem plays_none {w : World} {wb : Nat} {L : LawS} {OL K : Nat → Prop} (hl : LawIs OL K w wb L) (h0 : L.tbs = []) {o : OpS} {fv : Value} (ho : OpOk w o fv) (hkd : o.kind ≠ 1) :
    Calls Tryz.prog 26 #[.pointer (some ⟨wb, 0, none⟩), opv o fv] w fun e w' => e = .returned (.bool true) ∧ Below w.heap.size w w' := by
  obtain ⟨⟨av, tv, mv, iv, nv, hLa⟩, hK, hdk⟩ := hl
  obtain ⟨ao, cap, rfl⟩ := owns_form hLa.tbs.1
  have hwl := hLa.lt wb hLa.self
  have hav : w.cell? ⟨wb, 0, none⟩ = some (.slice ao 0 cap) := by rw [cell_of_heap hLa.cells, h0]; rfl
  obtain ⟨fao, fcap, rfl⟩ := reads_form ho.f
  obtain ⟨kd, on, oa, ov, F, os⟩ := o
  dsimp only at hkd
  have e1 : (kd == 1) = false := by simpa using hkd
  clear ho hLa hK hdk hkd h0
  have hbw := (Below.refl w.heap.size w).alloc (Nat.le_refl _) (.cells #[.int .i64 kd, .int .i64 on, .int .i64 oa, .bool ov, .slice fao F.length fcap, .string os] 66)
  unfold opv
  dsimp only
  go_enter Tryz.func26, Tryz.ntmps26
  go_wp2_with fail
  go_ret
  exact ⟨rfl, hbw⟩

set_option maxHeartbeats 4000000 in
set_option maxRecDepth 20000 in
theorem plays_other {w : World} {wb : Nat} {L : LawS} {OL K : Nat → Prop} (hl : LawIs OL K w wb L) (htb : L.tbs.length ≤ 4000000) {k : Nat} (hk : k < L.tbs.length) {o : OpS} {fv : Value} (ho : OpOk w o fv) (hp : pickI o.on L.tbs.length = k) (hkd : o.kind ≤ 0) :
    Calls Tryz.prog 26 #[.pointer (some ⟨wb, 0, none⟩), opv o fv] w fun e w' => e = .returned (.bool true) ∧ Below w.heap.size w w' := by
  obtain ⟨⟨av, tv, mv, iv, nv, hLa⟩, hK, hdk⟩ := hl
  obtain ⟨g, cap, rfl, hgl, hgk⟩ := law_twin hLa hk
  have hwl := hLa.lt wb hLa.self
  have hav : w.cell? ⟨wb, 0, none⟩ = some (.slice (some ⟨g, 0, none⟩) L.tbs.length cap) := by rw [cell_of_heap hLa.cells]; rfl
  have hon := ho.on
  obtain ⟨fao, fcap, rfl⟩ := reads_form ho.f
  obtain ⟨kd, on, oa, ov, F, os⟩ := o
  dsimp only at hkd hp hon
  have hpick := fun wq => lawPick on L.tbs.length wq hon.1 hon.2 (by omega) (by omega)
  rw [hp] at hpick
  clear hp hon ho hLa hK hdk
  generalize L.tbs.getD k 0 = tb at hgk
  generalize L.tbs.length = n at *
  have hbw := (Below.refl w.heap.size w).alloc (Nat.le_refl _) (.cells #[.int .i64 kd, .int .i64 on, .int .i64 oa, .bool ov, .slice fao F.length fcap, .string os] 66)
  have e1 : (kd == 1) = false := by simp; omega
  have e2 : (kd == 2) = false := by simp; omega
  have e3 : (kd == 3) = false := by simp; omega
  have e4 : (kd == 4) = false := by simp; omega
  have e5 : (kd == 5) = false := by simp; omega
  have e6 : (kd == 6) = false := by simp; omega
  have e7 : (kd == 7) = false := by simp; omega
  have e8 : (kd == 8) = false := by simp; omega
  have e9 : (kd == 9) = false := by simp; omega
  have e10 : (kd == 10) = false := by simp; omega
  have e11 : (kd == 11) = false := by simp; omega
  have e12 : (kd == 12) = false := by simp; omega
  have e13 : (kd == 13) = false := by simp; omega
  have e14 : (kd == 14) = false := by simp; omega
  have e15 : (kd == 15) = false := by simp; omega
  have e16 : (kd == 16) = false := by simp; omega
  have e17 : (kd == 17) = false := by simp; omega
  clear hkd
  unfold opv
  dsimp only
  go_enter Tryz.func26, Tryz.ntmps26
  go_wp2_with fail
  go_region_held (fun w' => w'.cell? ⟨w.heap.size, 1, none⟩ = some (.int .i64 on) ∧ w'.cell? ⟨wb, 0, none⟩ = some (.slice (some ⟨g, 0, none⟩) n cap)) (go_keep) (first | (go_at_call 61; refine (hpick _).mono ?_; rintro e wp ⟨rfl, hqp⟩; replace hqp := hqp.symm; subst hqp))
  go_wp2_with fail
  go_ret
  exact ⟨rfl, hbw.drew⟩

end Go.Proofs.YtebfmcafmojlaaaGreatDoor

/-
  copselaw.World: plays: Var.
-/
namespace Go.Proofs.YtebfmcafmojlaaaGreatDoor
open Go.RowKit
set_option linter.unusedSimpArgs false
set_option linter.unusedVariables false

theorem varC_eq {cF cT N : Nat} {C : CopS} {S : RefS} {l : List (Nat × Tab)} (ok : TwOk cF cT N C S l) (name : ByteArray) (hd : Nat) : varC C name hd = { C with names := S.names ++ [name], order := newOrder S, T := updT C.T hd (mask S.names.length) } := by
  unfold varC newOrder
  rw [← ok.names, ← ok.order]

theorem new_order {cF cT N : Nat} {C : CopS} {S : RefS} {l : List (Nat × Tab)} (ok : TwOk cF cT N C S l) (name : ByteArray) (h : S.names.length < 6) : (newOrder S).length ≤ 6 ∧ (∀ x ∈ newOrder S, x < 6) ∧ (newOrder S).length = (S.names ++ [name]).length ∧ ∀ x ∈ newOrder S, x < (S.names ++ [name]).length := by
  have h1 := ok.on
  have h2 := ok.ord
  unfold newOrder
  simp only [List.length_append, List.length_cons, List.length_nil, List.mem_append, List.mem_cons, List.not_mem_nil, or_false]
  refine ⟨by omega, ?_, by omega, ?_⟩
  · rintro x (e | e)
    · have := h2 x e; omega
    · omega
  · rintro x (e | e)
    · have := h2 x e; omega
    · omega

set_option maxHeartbeats 4000000 in
set_option maxRecDepth 20000 in
theorem plays_var_same {I : (Nat → Prop) → World → Nat → CopS → Prop} {cF cT : Nat} (sp : CopseSpec I cF cT) {w : World} {tb x r N : Nat} {C : CopS} {S : RefS} {l : List (Nat × Tab)} {av0 : Value} {OT OX OR : Nat → Prop} (st : TwSt I w tb x r C S l av0 OT OX OR) (ok : TwOk cF cT N C S l) (hN : N ≤ 3000000)
    {wb : Nat} {L : LawS} {OL K : Nat → Prop} (hl : LawIs OL K w wb L) (htb : L.tbs.length ≤ 4000000) {k : Nat} (hk : k < L.tbs.length) (ht : L.tbs.getD k 0 = tb) {o : OpS} {fv : Value} (ho : OpOk w o fv) (hp : pickI o.on L.tbs.length = k) (hkd : o.kind = 2) {ez : Int} (he : ez ≠ 0) (hvar : ∀ wq, I OX wq x C → Calls Tryz.prog 19 #[.pointer (some ⟨x, 0, none⟩), .string o.s] wq fun e w' => e = .returned (.tuple #[.int .i64 0, .int .i64 ez]) ∧ CopStep I OX wq x w' C) (href : ∀ wq, RefIs OR wq r S → Calls Tryz.prog 62 #[.pointer (some ⟨r, 0, none⟩), .string o.s] wq fun e w' => e = .returned (.tuple #[.int .u64 0, .int .i64 ez]) ∧ RefStep OR wq r w' S) :
    Calls Tryz.prog 26 #[.pointer (some ⟨wb, 0, none⟩), opv o fv] w fun e w' => e = .returned (.bool true) ∧ TwPost I cF cT w tb (N + 1) (Un OT OX OR) w' := by
  obtain ⟨⟨av, tv, mv, iv, nv, hLa⟩, hK, hdk⟩ := hl
  obtain ⟨g, cap, rfl, hgl, hgk⟩ := law_twin hLa hk
  rw [ht] at hgk
  have hwl := hLa.lt wb hLa.self
  have hav : w.cell? ⟨wb, 0, none⟩ = some (.slice (some ⟨g, 0, none⟩) L.tbs.length cap) := by rw [cell_of_heap hLa.cells]; rfl
  have hon := ho.on
  have hs := ho.s
  obtain ⟨fao, fcap, rfl⟩ := reads_form ho.f
  obtain ⟨kd, on, oa, ov, F, os⟩ := o
  dsimp only at hkd hp hon hs hvar href ⊢
  subst hkd
  have hpick := fun wq => lawPick on L.tbs.length wq hon.1 hon.2 (by omega) (by omega)
  rw [hp] at hpick
  clear hp hon ho hLa hK hdk ht
  generalize L.tbs.length = n at *
  have htl := st.t.lt tb st.t.self
  have hX : w.cell? ⟨tb, 0, none⟩ = some (.pointer (some ⟨x, 0, none⟩)) := by rw [cell_of_heap st.t.cells]; rfl
  have hRp : w.cell? ⟨tb, 1, none⟩ = some (.pointer (some ⟨r, 0, none⟩)) := by rw [cell_of_heap st.t.cells]; rfl
  have hbw := (Below.refl w.heap.size w).alloc (Nat.le_refl _) (.cells #[.int .i64 2, .int .i64 on, .int .i64 oa, .bool ov, .slice fao F.length fcap, .string os] 66)
  have hbl := Below.refl (w.heap.size + 1) (w.alloc (.cells #[.int .i64 2, .int .i64 on, .int .i64 oa, .bool ov, .slice fao F.length fcap, .string os] 66))
  have hsz : w.heap.size + 1 ≤ (w.alloc (.cells #[.int .i64 2, .int .i64 on, .int .i64 oa, .bool ov, .slice fao F.length fcap, .string os] 66)).heap.size := by simp
  unfold opv
  dsimp only
  go_enter Tryz.func26, Tryz.ntmps26
  go_wp2_with fail
  go_region_held (fun w' => w'.cell? ⟨w.heap.size, 1, none⟩ = some (.int .i64 on) ∧ w'.cell? ⟨wb, 0, none⟩ = some (.slice (some ⟨g, 0, none⟩) n cap)) (go_keep) (first | (go_at_call 61; refine (hpick _).mono ?_; rintro e wp ⟨rfl, hqp⟩; replace hqp := hqp.symm; subst hqp))
  go_wp2_with fail
  go_region_held (fun w' => w'.cell? ⟨tb, 0, none⟩ = some (.pointer (some ⟨x, 0, none⟩)) ∧ w'.cell? ⟨w.heap.size, 5, none⟩ = some (.string os)) (go_keep) (first | (go_at_call 19; refine (hvar _ (st.below sp hbw.drew.drew).c).mono ?_; rintro e w2 ⟨rfl, hsc⟩; obtain ⟨OX2, st2, ho2, hg2⟩ := (st.below sp hbw.drew.drew).stepC sp hsc; have hx2 : w2.cell? ⟨tb, 0, none⟩ = some (.pointer (some ⟨x, 0, none⟩)) := (by rw [cell_of_heap st2.t.cells]; rfl); have hr2 : w2.cell? ⟨tb, 1, none⟩ = some (.pointer (some ⟨r, 0, none⟩)) := (by rw [cell_of_heap st2.t.cells]; rfl); obtain ⟨d0, d1, d2, d3, d4, d5⟩ := box_only sp st.c hbl.drew.drew hsz ho2))
  go_wp2_with fail
  go_region_held (fun w' => w'.cell? ⟨tb, 1, none⟩ = some (.pointer (some ⟨r, 0, none⟩)) ∧ w'.cell? ⟨w.heap.size, 5, none⟩ = some (.string os)) (go_keep) (first | (go_at_call 62; refine (href _ st2.s.drew).mono ?_; rintro e w3 ⟨rfl, hsr⟩; obtain ⟨OR3, st3, ho3, hg3⟩ := st2.stepS sp hsr.undrew; have hr3 : w3.cell? ⟨tb, 1, none⟩ = some (.pointer (some ⟨r, 0, none⟩)) := (by rw [cell_of_heap st3.t.cells]; rfl); have g5 := (ref_cell st.s.lt (Nat.lt_of_lt_of_le (Nat.lt_of_succ_le hsz) ho2.size) hsr 5).trans d5))
  go_wp2_with (first
    | (go_at_call 63; refine (lawAnswer_no _ _ ez he _).mono ?_; rintro e w9 ⟨rfl, hq⟩; replace hq := hq.symm; subst hq))
  go_ret
  exact ⟨rfl, tw_same2 sp st ok hbw.drew.drew hsc hsr.undrew⟩

set_option maxHeartbeats 4000000 in
set_option maxRecDepth 20000 in
theorem plays_var_room {I : (Nat → Prop) → World → Nat → CopS → Prop} {cF cT : Nat} (sp : CopseSpec I cF cT) {w : World} {tb x r N : Nat} {C : CopS} {S : RefS} {l : List (Nat × Tab)} {av0 : Value} {OT OX OR : Nat → Prop} (st : TwSt I w tb x r C S l av0 OT OX OR) (ok : TwOk cF cT N C S l) (hN : N ≤ 3000000)
    {wb : Nat} {L : LawS} {OL K : Nat → Prop} (hl : LawIs OL K w wb L) (htb : L.tbs.length ≤ 4000000) {k : Nat} (hk : k < L.tbs.length) (ht : L.tbs.getD k 0 = tb) {o : OpS} {fv : Value} (ho : OpOk w o fv) (hp : pickI o.on L.tbs.length = k) (hkd : o.kind = 2) (h1 : isNameB o.s = true) (h2 : namedI S.names o.s = -1) (h3 : S.names.length < 6) (h4 : ¬ S.cap < ((allT (newOrder S) (newVarT S)).length : Int)) :
    Calls Tryz.prog 26 #[.pointer (some ⟨wb, 0, none⟩), opv o fv] w fun e w' => e = .returned (.bool true) ∧ TwPostX I cF cT w tb (N + 1) (Un OT OX OR) { S with names := S.names ++ [o.s], order := newOrder S, live := newVarT S } (toldF (l.map Prod.snd) (mask S.names.length)) w' := by
  obtain ⟨⟨av, tv, mv, iv, nv, hLa⟩, hK, hdk⟩ := hl
  obtain ⟨g, cap, rfl, hgl, hgk⟩ := law_twin hLa hk
  rw [ht] at hgk
  have hwl := hLa.lt wb hLa.self
  have hav : w.cell? ⟨wb, 0, none⟩ = some (.slice (some ⟨g, 0, none⟩) L.tbs.length cap) := by rw [cell_of_heap hLa.cells]; rfl
  have hon := ho.on
  have hs := ho.s
  obtain ⟨fao, fcap, rfl⟩ := reads_form ho.f
  obtain ⟨kd, on, oa, ov, F, os⟩ := o
  dsimp only at hkd hp hon hs h1 h2 ⊢
  subst hkd
  have hpick := fun wq => lawPick on L.tbs.length wq hon.1 hon.2 (by omega) (by omega)
  rw [hp] at hpick
  have hno := new_order ok os h3
  have hcn := ok.names
  have hco := ok.order
  have hcc := ok.cap
  have hfv : ¬ fullV C S.live := by unfold fullV; rw [hcc, hco, hcn]; exact h4
  have hvar := fun wq (hc : I OX wq x C) => post_room (sp.var hc S.live ok.lists os hs h1 (by rw [hcn]; exact h2) (by rw [hcn]; exact h3)) hfv
  rw [hcn] at hvar
  have hvr : varR S os = (mask S.names.length, 0, { S with names := S.names ++ [os], order := newOrder S, live := newVarT S }) := by
    unfold varR
    rw [if_neg (by rw [h1, h2]; simp), if_neg (by omega), if_neg h4]
  have href := fun wq (hq : RefIs OR wq r S) => refVarM hq (ok.ref hN) os hs
  rw [hvr] at href
  simp only [tabv] at href
  clear hvr hfv hcn hco hcc h1 h2 h3 h4
  clear hp hon ho hLa hK hdk ht
  generalize L.tbs.length = n at *
  have htl := st.t.lt tb st.t.self
  have hX : w.cell? ⟨tb, 0, none⟩ = some (.pointer (some ⟨x, 0, none⟩)) := by rw [cell_of_heap st.t.cells]; rfl
  have hRp : w.cell? ⟨tb, 1, none⟩ = some (.pointer (some ⟨r, 0, none⟩)) := by rw [cell_of_heap st.t.cells]; rfl
  have hbw := (Below.refl w.heap.size w).alloc (Nat.le_refl _) (.cells #[.int .i64 2, .int .i64 on, .int .i64 oa, .bool ov, .slice fao F.length fcap, .string os] 66)
  have hbl := Below.refl (w.heap.size + 1) (w.alloc (.cells #[.int .i64 2, .int .i64 on, .int .i64 oa, .bool ov, .slice fao F.length fcap, .string os] 66))
  have hsz : w.heap.size + 1 ≤ (w.alloc (.cells #[.int .i64 2, .int .i64 on, .int .i64 oa, .bool ov, .slice fao F.length fcap, .string os] 66)).heap.size := by simp
  unfold opv
  dsimp only
  go_enter Tryz.func26, Tryz.ntmps26
  go_wp2_with fail
  go_region_held (fun w' => w'.cell? ⟨w.heap.size, 1, none⟩ = some (.int .i64 on) ∧ w'.cell? ⟨wb, 0, none⟩ = some (.slice (some ⟨g, 0, none⟩) n cap)) (go_keep) (first | (go_at_call 61; refine (hpick _).mono ?_; rintro e wp ⟨rfl, hqp⟩; replace hqp := hqp.symm; subst hqp))
  go_wp2_with fail
  go_region_held (fun w' => w'.cell? ⟨tb, 0, none⟩ = some (.pointer (some ⟨x, 0, none⟩)) ∧ w'.cell? ⟨w.heap.size, 5, none⟩ = some (.string os)) (go_keep) (first | (go_at_call 19; refine (hvar _ (st.below sp hbw.drew.drew).c).mono ?_; rintro e w2 ⟨hd2, rfl, hm, hfr, hsc⟩; obtain ⟨OX2, st2, ho2, hg2⟩ := (st.below sp hbw.drew.drew).stepC sp hsc; have hx2 : w2.cell? ⟨tb, 0, none⟩ = some (.pointer (some ⟨x, 0, none⟩)) := (by rw [cell_of_heap st2.t.cells]; rfl); have hr2 : w2.cell? ⟨tb, 1, none⟩ = some (.pointer (some ⟨r, 0, none⟩)) := (by rw [cell_of_heap st2.t.cells]; rfl); obtain ⟨d0, d1, d2, d3, d4, d5⟩ := box_only sp st.c hbl.drew.drew hsz ho2))
  go_wp2_with fail
  go_region_held (fun w' => w'.cell? ⟨tb, 1, none⟩ = some (.pointer (some ⟨r, 0, none⟩)) ∧ w'.cell? ⟨w.heap.size, 5, none⟩ = some (.string os)) (go_keep) (first | (go_at_call 62; refine (href _ st2.s.drew).mono ?_; rintro e w3 ⟨rfl, hsr⟩; obtain ⟨OR3, st3, ho3, hg3⟩ := st2.stepS sp hsr.undrew; have hr3 : w3.cell? ⟨tb, 1, none⟩ = some (.pointer (some ⟨r, 0, none⟩)) := (by rw [cell_of_heap st3.t.cells]; rfl); have g5 := (ref_cell st.s.lt (Nat.lt_of_lt_of_le (Nat.lt_of_succ_le hsz) ho2.size) hsr 5).trans d5; have hsc2 := hsc; rw [varC_eq ok] at hsc2; obtain ⟨OX', OR', mid⟩ := mid_of sp st ok hN hbw.drew.drew hm hfr _ _ hno.1 hno.2.1 hno.2.2.1 hno.2.2.2 hsc2 hsr.undrew))
  go_wp2_with (first
    | (go_at_call 63; refine (lawAnswer_yes mid.st.t mid.l2 mid.ll _ mid.hm _ mid.alike mid.small).mono ?_; rintro e w9 ⟨rfl, hts⟩))
  go_ret
  exact ⟨rfl, mid.postx sp hts⟩

/-- Var, whatever it answers. -/
theorem plays_var {I : (Nat → Prop) → World → Nat → CopS → Prop} {cF cT : Nat} (sp : CopseSpec I cF cT) {w : World} {O : Nat → Prop} {tb N : Nat} (h : TwIs I cF cT O w tb N) (hN : N ≤ 3000000)
    {wb : Nat} {L : LawS} {OL K : Nat → Prop} (hl : LawIs OL K w wb L) (htb : L.tbs.length ≤ 4000000) {k : Nat} (hk : k < L.tbs.length) (ht : L.tbs.getD k 0 = tb) {o : OpS} {fv : Value} (ho : OpOk w o fv) (hp : pickI o.on L.tbs.length = k) (hkd : o.kind = 2) :
    Calls Tryz.prog 26 #[.pointer (some ⟨wb, 0, none⟩), opv o fv] w fun e w' => e = .returned (.bool true) ∧ TwPost I cF cT w tb (N + 1) O w' := by
  obtain ⟨x, r, C, S, l, av, OT, OX, OR, st, ok, hO⟩ := h
  rw [un_eq hO]
  have href := fun wq (hq : RefIs OR wq r S) => refVarM hq (ok.ref hN) o.s ho.s
  have hcn := ok.names
  by_cases h1 : isNameB o.s = false ∨ 0 ≤ namedI S.names o.s
  · have e : varR S o.s = (0, 2, S) := by unfold varR; rw [if_pos h1]
    rw [e] at href
    exact plays_var_same sp st ok hN hl htb hk ht ho hp hkd (ez := 2) (by decide) (fun wq hc => sp.var_no hc o.s ho.s (by rw [hcn]; exact h1)) href
  · have h1' : isNameB o.s = true := by
      cases hn : isNameB o.s
      · exact absurd (.inl hn) h1
      · rfl
    have h2 : namedI S.names o.s = -1 := (namedI_cases S.names o.s).resolve_right (fun e => h1 (.inr e))
    have hn6 := ok.ol
    have hon := ok.on
    by_cases h3 : S.names.length = 6
    · have e : varR S o.s = (0, 3, S) := by unfold varR; rw [if_neg h1, if_pos h3]
      rw [e] at href
      exact plays_var_same sp st ok hN hl htb hk ht ho hp hkd (ez := 3) (by decide) (fun wq hc => sp.var_many hc o.s ho.s h1' (by rw [hcn]; exact h2) (by rw [hcn]; exact h3)) href
    · have h3' : S.names.length < 6 := by omega
      by_cases h4 : S.cap < ((allT (newOrder S) (newVarT S)).length : Int)
      · have e : varR S o.s = (0, 5, S) := by unfold varR; rw [if_neg h1, if_neg h3, if_pos h4]
        rw [e] at href
        have hfv : fullV C S.live := by unfold fullV; rw [ok.cap, ok.order, hcn]; exact h4
        exact plays_var_same sp st ok hN hl htb hk ht ho hp hkd (ez := 5) (by decide) (fun wq hc => post_full (sp.var hc S.live ok.lists o.s ho.s h1' (by rw [hcn]; exact h2) (by rw [hcn]; exact h3')) hfv) href
      · exact (plays_var_room sp st ok hN hl htb hk ht ho hp hkd h1' h2 h3' h4).mono (fun e w' h => ⟨h.1, h.2.post⟩)

end Go.Proofs.YtebfmcafmojlaaaGreatDoor

/-
  copselaw.World: plays: every step up to Const.
-/
namespace Go.Proofs.YtebfmcafmojlaaaGreatDoor
open Go.RowKit
set_option linter.unusedSimpArgs false
set_option linter.unusedVariables false

theorem OpOk.below {w w' : World} {o : OpS} {fv : Value} (h : OpOk w o fv) (hb : Below w.heap.size w w') : OpOk w' o fv :=
  ⟨(h.f.below hb (Nat.le_refl _)).mono hb.size, h.fl, h.z, h.s, h.a, h.on, h.k⟩

theorem pick_nat (c : Int) {n : Nat} (hn : 0 < n) : ∃ k : Nat, pickI c n = k ∧ k < n := by
  have h := pickI_lt c n (by omega)
  exact ⟨(pickI c n).toNat, by omega, by omega⟩

def PlayPost (I : (Nat → Prop) → World → Nat → CopS → Prop) (cF cT : Nat) (G : Nat → Prop) (w : World) (wb : Nat) (tl : Nat) (Ns : Nat → Nat) (M : Nat) (w' : World) : Prop :=
  ∃ L' OL' K' Os', AllIs I cF cT G w' wb L' OL' K' Os' Ns M ∧ L'.tbs.length ≤ tl ∧ Only G w w'

theorem lawPlays {I : (Nat → Prop) → World → Nat → CopS → Prop} {cF cT : Nat} (sp : CopseSpec I cF cT) {G : Nat → Prop} {w : World} {wb : Nat} {L : LawS} {OL K : Nat → Prop} {Os : Nat → Nat → Prop} {N M : Nat} (h : AllIs I cF cT G w wb L OL K Os (fun _ => N) M) (hN : N ≤ 3000000) (hM : M ≤ 20000000) (htb : L.tbs.length ≤ 4000000) {o : OpS} {fv : Value} (ho : OpOk w o fv) (hkd : o.kind ≤ 9) :
    Calls Tryz.prog 26 #[.pointer (some ⟨wb, 0, none⟩), opv o fv] w fun e w' => e = .returned (.bool true) ∧ PlayPost I cF cT G w wb (L.tbs.length + 1) (fun _ => N + 1) (M + 1) w' := by
  have hup : ∀ k j, setN (fun _ => N) k (N + 1) j ≤ N + 1 := by
    intro k j
    unfold setN
    split
    · exact Nat.le_refl _
    · exact Nat.le_succ N
  by_cases h1 : o.kind = 1
  · refine plays_begin ho h1 (fun w1 hb => ?_)
    have h' := h.below sp hb
    have ho' := ho.below hb
    have hpost : ∀ e w', (e = Ending.returned (.bool true) ∧ BeginPost I cF cT w1 wb L OL K o.a w') → (e = Ending.returned (.bool true) ∧ PlayPost I cF cT G w wb (L.tbs.length + 1) (fun _ => N + 1) (M + 1) w') := by
      rintro e w' ⟨he, hp⟩
      obtain ⟨L', OL', Os', ha, hl, hbb⟩ := h'.begun sp hp
      exact ⟨he, L', OL', K, Os', ha.mono (fun _ => Nat.le_succ _) (Nat.le_succ _), hl, (only_of_below hb G).trans hbb (Grows.refl _ _)⟩
    by_cases hc : 1 ≤ o.a ∧ o.a ≤ 300
    · exact (begin_yes sp o fv h'.law htb ho' hc.1 hc.2).mono hpost
    · exact (begin_no sp o fv L OL K ho' (by omega)).mono hpost
  · by_cases h0 : L.tbs = []
    · refine (plays_none h.law h0 ho h1).mono ?_
      rintro e w' ⟨he, hb⟩
      exact ⟨he, L, OL, K, Os, (h.below sp hb).mono (fun _ => Nat.le_succ _) (Nat.le_succ _), Nat.le_succ _, only_of_below hb G⟩
    · have hlen : 0 < L.tbs.length := by
        cases hh : L.tbs with
        | nil => exact absurd hh h0
        | cons a l => simp
      obtain ⟨k, hp, hk⟩ := pick_nat o.on hlen
      have hT : ∀ w1, Below w.heap.size w w1 → ∀ e w', (e = Ending.returned (.bool true) ∧ TwPost I cF cT w1 (L.tbs.getD k 0) (N + 1) (Os k) w') → (e = Ending.returned (.bool true) ∧ PlayPost I cF cT G w wb (L.tbs.length + 1) (fun _ => N + 1) (M + 1) w') := by
        rintro w1 hb e w' ⟨he, hq⟩
        obtain ⟨Os', ha, hbb⟩ := (h.below sp hb).step sp hk hq
        exact ⟨he, L, OL, K, Os', ha.mono (hup k) (Nat.le_succ _), Nat.le_succ _, (only_of_below hb G).trans hbb (Grows.refl _ _)⟩
      by_cases h2 : o.kind ≤ 0
      · refine (plays_other h.law htb hk ho hp h2).mono ?_
        rintro e w' ⟨he, hb⟩
        exact ⟨he, L, OL, K, Os, (h.below sp hb).mono (fun _ => Nat.le_succ _) (Nat.le_succ _), Nat.le_succ _, only_of_below hb G⟩
      by_cases h3 : o.kind = 2
      · exact (plays_var sp (h.tw k hk) hN h.law htb hk rfl ho hp h3).mono (hT w (Below.refl _ _))
      by_cases h4 : o.kind = 3 ∨ o.kind = 4 ∨ o.kind = 5
      · exact plays_works h.law htb hk ho hp h4 (fun w1 hb => (lawWorks sp ((h.below sp hb).tw k hk) hN (ho.below hb) h4).mono (hT w1 hb))
      by_cases h5 : o.kind = 6 ∨ o.kind = 7 ∨ o.kind = 8
      · refine plays_asks h.law htb hk ho hp h5 (fun w1 hb => ?_)
        have h' := h.below sp hb
        have hmt := h.mt
        have hmi := h.mi
        have hmn := h.mn
        refine (lawAsks sp (h'.tw k hk) hN (ho.below hb) h5 h'.law (h'.d k hk) (by omega) (by omega) (by omega)).mono ?_
        rintro e w' ⟨he, hq⟩
        obtain ⟨L', OL', K', Os', ha, hl, hbb⟩ := h'.ask sp hk hq
        exact ⟨he, L', OL', K', Os', ha.mono (hup k) (Nat.le_refl _), by rw [hl]; exact Nat.le_succ _, (only_of_below hb G).trans hbb (Grows.refl _ _)⟩
      · have h6 : o.kind = 9 := by omega
        exact plays_const h.law htb hk ho hp h6 (fun w1 hb => (lawConst sp ((h.below sp hb).tw k hk) hN (ho.below hb) h6 wb).mono (hT w1 hb))

end Go.Proofs.YtebfmcafmojlaaaGreatDoor

/-
  copselaw.World: plays: every step up to Sift.
-/
namespace Go.Proofs.YtebfmcafmojlaaaGreatDoor
open Go.RowKit
set_option linter.unusedSimpArgs false
set_option linter.unusedVariables false

set_option maxHeartbeats 4000000 in
set_option maxRecDepth 20000 in
theorem plays_orders {w : World} {wb : Nat} {L : LawS} {OL K : Nat → Prop} (hl : LawIs OL K w wb L) (htb : L.tbs.length ≤ 4000000) {k : Nat} (hk : k < L.tbs.length) {o : OpS} {fv : Value} (ho : OpOk w o fv) (hp : pickI o.on L.tbs.length = k) (hkd : o.kind = 10 ∨ o.kind = 11 ∨ o.kind = 13 ∨ o.kind = 14) {Q : World → Prop}
    (hq : ∀ w1, Below w.heap.size w w1 → Calls Tryz.prog 66 #[.pointer (some ⟨wb, 0, none⟩), .pointer (some ⟨L.tbs.getD k 0, 0, none⟩), opv o fv] w1 fun e w' => e = .returned (.bool true) ∧ Q w') :
    Calls Tryz.prog 26 #[.pointer (some ⟨wb, 0, none⟩), opv o fv] w fun e w' => e = .returned (.bool true) ∧ Q w' := by
  obtain ⟨⟨av, tv, mv, iv, nv, hLa⟩, hK, hdk⟩ := hl
  obtain ⟨g, cap, rfl, hgl, hgk⟩ := law_twin hLa hk
  have hwl := hLa.lt wb hLa.self
  have hav : w.cell? ⟨wb, 0, none⟩ = some (.slice (some ⟨g, 0, none⟩) L.tbs.length cap) := by rw [cell_of_heap hLa.cells]; rfl
  have hon := ho.on
  obtain ⟨fao, fcap, rfl⟩ := reads_form ho.f
  obtain ⟨kd, on, oa, ov, F, os⟩ := o
  dsimp only at hkd hp hon
  have hpick := fun wq => lawPick on L.tbs.length wq hon.1 hon.2 (by omega) (by omega)
  rw [hp] at hpick
  clear hp hon ho hLa hK hdk
  generalize L.tbs.getD k 0 = tb at hgk hq
  generalize L.tbs.length = n at *
  have hbw := (Below.refl w.heap.size w).alloc (Nat.le_refl _) (.cells #[.int .i64 kd, .int .i64 on, .int .i64 oa, .bool ov, .slice fao F.length fcap, .string os] 66)
  unfold opv at hq ⊢
  dsimp only at hq ⊢
  rcases hkd with rfl | rfl | rfl | rfl
  · go_enter Tryz.func26, Tryz.ntmps26
    go_wp2_with fail
    go_region_held (fun w' => w'.cell? ⟨w.heap.size, 1, none⟩ = some (.int .i64 on) ∧ w'.cell? ⟨wb, 0, none⟩ = some (.slice (some ⟨g, 0, none⟩) n cap)) (go_keep) (first | (go_at_call 61; refine (hpick _).mono ?_; rintro e wp ⟨rfl, hqp⟩; replace hqp := hqp.symm; subst hqp))
    go_wp2_with (first | (go_at_call 66; refine (hq _ hbw.drew).mono ?_; rintro e w9 ⟨rfl, hfin⟩))
    go_ret
    exact ⟨rfl, hfin⟩
  · go_enter Tryz.func26, Tryz.ntmps26
    go_wp2_with fail
    go_region_held (fun w' => w'.cell? ⟨w.heap.size, 1, none⟩ = some (.int .i64 on) ∧ w'.cell? ⟨wb, 0, none⟩ = some (.slice (some ⟨g, 0, none⟩) n cap)) (go_keep) (first | (go_at_call 61; refine (hpick _).mono ?_; rintro e wp ⟨rfl, hqp⟩; replace hqp := hqp.symm; subst hqp))
    go_wp2_with (first | (go_at_call 66; refine (hq _ hbw.drew).mono ?_; rintro e w9 ⟨rfl, hfin⟩))
    go_ret
    exact ⟨rfl, hfin⟩
  · go_enter Tryz.func26, Tryz.ntmps26
    go_wp2_with fail
    go_region_held (fun w' => w'.cell? ⟨w.heap.size, 1, none⟩ = some (.int .i64 on) ∧ w'.cell? ⟨wb, 0, none⟩ = some (.slice (some ⟨g, 0, none⟩) n cap)) (go_keep) (first | (go_at_call 61; refine (hpick _).mono ?_; rintro e wp ⟨rfl, hqp⟩; replace hqp := hqp.symm; subst hqp))
    go_wp2_with (first | (go_at_call 66; refine (hq _ hbw.drew).mono ?_; rintro e w9 ⟨rfl, hfin⟩))
    go_ret
    exact ⟨rfl, hfin⟩
  · go_enter Tryz.func26, Tryz.ntmps26
    go_wp2_with fail
    go_region_held (fun w' => w'.cell? ⟨w.heap.size, 1, none⟩ = some (.int .i64 on) ∧ w'.cell? ⟨wb, 0, none⟩ = some (.slice (some ⟨g, 0, none⟩) n cap)) (go_keep) (first | (go_at_call 61; refine (hpick _).mono ?_; rintro e wp ⟨rfl, hqp⟩; replace hqp := hqp.symm; subst hqp))
    go_wp2_with (first | (go_at_call 66; refine (hq _ hbw.drew).mono ?_; rintro e w9 ⟨rfl, hfin⟩))
    go_ret
    exact ⟨rfl, hfin⟩

set_option maxHeartbeats 4000000 in
set_option maxRecDepth 20000 in
theorem plays_collect {w : World} {wb : Nat} {L : LawS} {OL K : Nat → Prop} (hl : LawIs OL K w wb L) (htb : L.tbs.length ≤ 4000000) {k : Nat} (hk : k < L.tbs.length) {o : OpS} {fv : Value} (ho : OpOk w o fv) (hp : pickI o.on L.tbs.length = k) (hkd : o.kind = 12) {Q : World → Prop}
    (hq : ∀ w1, Below w.heap.size w w1 → Calls Tryz.prog 67 #[.pointer (some ⟨wb, 0, none⟩), .pointer (some ⟨L.tbs.getD k 0, 0, none⟩), opv o fv] w1 fun e w' => e = .returned (.bool true) ∧ Q w') :
    Calls Tryz.prog 26 #[.pointer (some ⟨wb, 0, none⟩), opv o fv] w fun e w' => e = .returned (.bool true) ∧ Q w' := by
  obtain ⟨⟨av, tv, mv, iv, nv, hLa⟩, hK, hdk⟩ := hl
  obtain ⟨g, cap, rfl, hgl, hgk⟩ := law_twin hLa hk
  have hwl := hLa.lt wb hLa.self
  have hav : w.cell? ⟨wb, 0, none⟩ = some (.slice (some ⟨g, 0, none⟩) L.tbs.length cap) := by rw [cell_of_heap hLa.cells]; rfl
  have hon := ho.on
  obtain ⟨fao, fcap, rfl⟩ := reads_form ho.f
  obtain ⟨kd, on, oa, ov, F, os⟩ := o
  dsimp only at hkd hp hon
  have hpick := fun wq => lawPick on L.tbs.length wq hon.1 hon.2 (by omega) (by omega)
  rw [hp] at hpick
  clear hp hon ho hLa hK hdk
  generalize L.tbs.getD k 0 = tb at hgk hq
  generalize L.tbs.length = n at *
  have hbw := (Below.refl w.heap.size w).alloc (Nat.le_refl _) (.cells #[.int .i64 kd, .int .i64 on, .int .i64 oa, .bool ov, .slice fao F.length fcap, .string os] 66)
  unfold opv at hq ⊢
  dsimp only at hq ⊢
  subst hkd
  go_enter Tryz.func26, Tryz.ntmps26
  go_wp2_with fail
  go_region_held (fun w' => w'.cell? ⟨w.heap.size, 1, none⟩ = some (.int .i64 on) ∧ w'.cell? ⟨wb, 0, none⟩ = some (.slice (some ⟨g, 0, none⟩) n cap)) (go_keep) (first | (go_at_call 61; refine (hpick _).mono ?_; rintro e wp ⟨rfl, hqp⟩; replace hqp := hqp.symm; subst hqp))
  go_wp2_with (first | (go_at_call 67; refine (hq _ hbw.drew).mono ?_; rintro e w9 ⟨rfl, hfin⟩))
  go_ret
  exact ⟨rfl, hfin⟩

theorem AskPost.ofX {I : (Nat → Prop) → World → Nat → CopS → Prop} {cF cT : Nat} {w w' : World} {tb N : Nat} {O : Nat → Prop} {wb : Nat} {L : LawS} {OL K : Nat → Prop} {S : RefS} {fs : List Tab} (h : TwPostX I cF cT w tb N O S fs w') (hl : LawIs OL K w wb L) (hd : ∀ b, O b → ¬ OL b ∧ ¬ K b) : AskPostX I cF cT w tb N O wb L OL K S fs w' := by
  obtain ⟨ho, O', ht, hg⟩ := h
  refine ⟨OL, K, L, O', hl.keep ho.size (fun k hk => ho.block k (hl.lt k hk) (fun e => hk.elim (hd k e).1 (hd k e).2)), ht, ho.mono (fun b hb => .inr hb), rfl, by omega, by omega, by omega, Grows.refl _ _, hg, fun b hb => .inl hb, ?_⟩
  intro b hb
  rcases hg b hb with e | e
  · exact hd b e
  · exact ⟨fun e2 => by have := hl.lt b (.inl e2); omega, fun e2 => by have := hl.lt b (.inr e2); omega⟩

theorem lawOrders_step {I : (Nat → Prop) → World → Nat → CopS → Prop} {cF cT : Nat} (sp : CopseSpec2 I cF cT) {O : Nat → Prop} {w : World} {tb N : Nat} (h : TwIs I cF cT O w tb N) (hN : N ≤ 3000000) {o : OpS} {fv : Value} (ho : OpOk w o fv) (hk : o.kind = 10 ∨ o.kind = 11 ∨ o.kind = 13 ∨ o.kind = 14)
    {wb : Nat} {L : LawS} {OL K : Nat → Prop} (hl : LawIs OL K w wb L) (hd : ∀ b, O b → ¬ OL b ∧ ¬ K b) (hLn : L.n ≤ 100000000) (hLt : L.texts.length ≤ 100000000) :
    Calls Tryz.prog 66 #[.pointer (some ⟨wb, 0, none⟩), .pointer (some ⟨tb, 0, none⟩), opv o fv] w fun e w' => e = .returned (.bool true) ∧ AskPost I cF cT w tb (N + 1) O wb L OL K w' := by
  obtain ⟨x, r, C, S, l, av, OT, OX, OR, st, ok, hO⟩ := h
  have hU := un_eq hO
  subst hU
  rcases hk with hk | hk | hk | hk
  · exact (orders_order sp st ok hN o fv ho hk hl hd hLn hLt).mono (fun e w' h => ⟨h.1, h.2.post⟩)
  · exact (orders_live sp st ok hN o fv ho hk wb).mono (fun e w' h => ⟨h.1, (AskPost.ofX h.2 hl hd).post⟩)
  · exact (orders_move sp st ok hN o fv ho hk wb).mono (fun e w' h => ⟨h.1, (AskPost.ofX h.2 hl hd).post⟩)
  · exact (orders_sift sp st ok hN o fv ho hk wb).mono (fun e w' h => ⟨h.1, (AskPost.ofX h.2 hl hd).post⟩)

theorem lawCollect_step {I : (Nat → Prop) → World → Nat → CopS → Prop} {cF cT : Nat} (sp : CopseSpec2 I cF cT) {O : Nat → Prop} {w : World} {tb N : Nat} (h : TwIs I cF cT O w tb N) (hN : N ≤ 3000000) {o : OpS} {fv : Value} (ho : OpOk w o fv)
    {wb : Nat} {L : LawS} {OL K : Nat → Prop} (hl : LawIs OL K w wb L) (hd : ∀ b, O b → ¬ OL b ∧ ¬ K b) (hLn : L.n ≤ 100000000) (hLi : L.ints.length ≤ 100000000) :
    Calls Tryz.prog 67 #[.pointer (some ⟨wb, 0, none⟩), .pointer (some ⟨tb, 0, none⟩), opv o fv] w fun e w' => e = .returned (.bool true) ∧ AskPost I cF cT w tb (N + 1) O wb L OL K w' := by
  obtain ⟨x, r, C, S, l, av, OT, OX, OR, st, ok, hO⟩ := h
  have hU := un_eq hO
  subst hU
  exact law_collect sp st ok hN o fv ho hl hd hLn hLi

theorem lawPlays2 {I : (Nat → Prop) → World → Nat → CopS → Prop} {cF cT : Nat} (sp : CopseSpec2 I cF cT) {G : Nat → Prop} {w : World} {wb : Nat} {L : LawS} {OL K : Nat → Prop} {Os : Nat → Nat → Prop} {N M : Nat} (h : AllIs I cF cT G w wb L OL K Os (fun _ => N) M) (hN : N ≤ 3000000) (hM : M ≤ 20000000) (htb : L.tbs.length ≤ 4000000) {o : OpS} {fv : Value} (ho : OpOk w o fv) (hkd : o.kind ≤ 14) :
    Calls Tryz.prog 26 #[.pointer (some ⟨wb, 0, none⟩), opv o fv] w fun e w' => e = .returned (.bool true) ∧ PlayPost I cF cT G w wb (L.tbs.length + 1) (fun _ => N + 1) (M + 1) w' := by
  by_cases h9 : o.kind ≤ 9
  · exact lawPlays sp.b h hN hM htb ho h9
  · have hup : ∀ k j, setN (fun _ => N) k (N + 1) j ≤ N + 1 := by
      intro k j
      unfold setN
      split
      · exact Nat.le_refl _
      · exact Nat.le_succ N
    by_cases h0 : L.tbs = []
    · refine (plays_none h.law h0 ho (by omega)).mono ?_
      rintro e w' ⟨he, hb⟩
      exact ⟨he, L, OL, K, Os, (h.below sp.b hb).mono (fun _ => Nat.le_succ _) (Nat.le_succ _), Nat.le_succ _, only_of_below hb G⟩
    · have hlen : 0 < L.tbs.length := by
        cases hh : L.tbs with
        | nil => exact absurd hh h0
        | cons a l => simp
      obtain ⟨k, hp, hk⟩ := pick_nat o.on hlen
      have hT : ∀ w1, Below w.heap.size w w1 → ∀ e w', (e = Ending.returned (.bool true) ∧ AskPost I cF cT w1 (L.tbs.getD k 0) (N + 1) (Os k) wb L OL K w') → (e = Ending.returned (.bool true) ∧ PlayPost I cF cT G w wb (L.tbs.length + 1) (fun _ => N + 1) (M + 1) w') := by
        rintro w1 hb e w' ⟨he, hq⟩
        obtain ⟨L', OL', K', Os', ha, hl, hbb⟩ := (h.below sp.b hb).ask sp.b hk hq
        exact ⟨he, L', OL', K', Os', ha.mono (hup k) (Nat.le_refl _), by rw [hl]; exact Nat.le_succ _, (only_of_below hb G).trans hbb (Grows.refl _ _)⟩
      have hmt := h.mt
      have hmi := h.mi
      have hmn := h.mn
      by_cases h12 : o.kind = 12
      · refine plays_collect h.law htb hk ho hp h12 (fun w1 hb => ?_)
        have h' := h.below sp.b hb
        exact (lawCollect_step sp (h'.tw k hk) hN (ho.below hb) h'.law (h'.d k hk) (by omega) (by omega)).mono (hT w1 hb)
      · have hkk : o.kind = 10 ∨ o.kind = 11 ∨ o.kind = 13 ∨ o.kind = 14 := by omega
        refine plays_orders h.law htb hk ho hp hkk (fun w1 hb => ?_)
        have h' := h.below sp.b hb
        exact (lawOrders_step sp (h'.tw k hk) hN (ho.below hb) hkk h'.law (h'.d k hk) (by omega) (by omega)).mono (hT w1 hb)

end Go.Proofs.YtebfmcafmojlaaaGreatDoor

/-
  copselaw.World: tells.
-/
namespace Go.Proofs.YtebfmcafmojlaaaGreatDoor
open Go.RowKit
set_option linter.unusedSimpArgs false
set_option linter.unusedVariables false

theorem pickI_self {i n : Nat} (h : i < n) : pickI (i : Int) (n : Int) = (i : Int) := by
  unfold pickI
  rw [if_neg (by omega)]
  exact Int.emod_eq_of_lt (by omega) (by omega)

theorem lawEval {I : (Nat → Prop) → World → Nat → CopS → Prop} {cF cT : Nat} (sp : CopseSpec I cF cT) {O : Nat → Prop} {w : World} {tb N : Nat} (h : TwIs I cF cT O w tb N) (hN : N ≤ 3000000) {o : OpS} {fv : Value} (ho : OpOk w o fv) (hk : o.kind = 6) (wb : Nat) :
    Calls Tryz.prog 65 #[.pointer (some ⟨wb, 0, none⟩), .pointer (some ⟨tb, 0, none⟩), opv o fv] w fun e w' => e = .returned (.bool true) ∧ TwPost I cF cT w tb (N + 1) O w' := by
  obtain ⟨x, r, C, S, l, av, OT, OX, OR, st, ok, hO⟩ := h
  rw [un_eq hO]
  have hfl : o.f.length ≤ 2000000 := Nat.le_trans ho.fl (by decide)
  cases hp : sevB l o.f 0
  · exact asks_eval_bad sp st ok hN o fv ho.f hfl ho.z ho.s hk wb ho.a hp
  · exact asks_eval sp st ok hN o fv ho.f hfl ho.z ho.s hk wb ho.a hp

/-- While a copse tells: c answers of twin i, m lists. -/
def TellSt (I : (Nat → Prop) → World → Nat → CopS → Prop) (cF cT : Nat) (G : Nat → Prop) (w : World) (wb : Nat) (tbs : List Nat) (Ns : Nat → Nat) (i M c m : Nat) (wr : World) : Prop :=
  ∃ L' OL' K' Os', AllIs I cF cT G wr wb L' OL' K' Os' (setN Ns i (Ns i + c)) (M + m) ∧ L'.tbs = tbs ∧ Only G w wr

theorem setN_set (Ns : Nat → Nat) (i a b : Nat) : setN (setN Ns i a) i b = setN Ns i b := by
  funext j
  unfold setN
  split <;> rfl

theorem setN_le (Ns : Nat → Nat) (i a b : Nat) (h : a ≤ b) : ∀ j, setN Ns i a j ≤ setN Ns i b j := by
  intro j
  unfold setN
  split <;> omega

theorem TellSt.mono {I : (Nat → Prop) → World → Nat → CopS → Prop} {cF cT : Nat} {G : Nat → Prop} {w : World} {wb : Nat} {tbs : List Nat} {Ns : Nat → Nat} {i M c m c' m' : Nat} {wr : World} (h : TellSt I cF cT G w wb tbs Ns i M c m wr) (hc : c ≤ c') (hm : m ≤ m') : TellSt I cF cT G w wb tbs Ns i M c' m' wr := by
  obtain ⟨L', OL', K', Os', h1, h2, h3⟩ := h
  exact ⟨L', OL', K', Os', h1.mono (setN_le _ _ _ _ (by omega)) (by omega), h2, h3⟩

theorem tell_len {I : (Nat → Prop) → World → Nat → CopS → Prop} {cF cT : Nat} {G : Nat → Prop} {w : World} {wb : Nat} {tbs : List Nat} {Ns : Nat → Nat} {i M c m : Nat} {wr : World} (h : TellSt I cF cT G w wb tbs Ns i M c m wr) (hi : i < tbs.length) : ∃ (ao : Option Addr) (n cap : Nat), wr.cell? ⟨tbs.getD i 0, 2, none⟩ = some (.slice ao n cap) := by
  obtain ⟨L', OL', K', Os', h1, h2, h3⟩ := h
  subst h2
  obtain ⟨x, r, C, S, l, av, OT, OX, OR, st, ok, hO⟩ := h1.tw i hi
  obtain ⟨ao, cap, rfl⟩ := st.t.row.form
  exact ⟨ao, l.length, cap, by rw [cell_of_heap st.t.cells]; rfl⟩

def oneF (w : World) (k : Nat) : World := w.alloc (.cells #[.int .i64 (k : Int)] 3)

theorem one_ok (w : World) (k : Nat) (hk : k ≤ 1000000) (o : OpS) (hf : o.f = [(k : Int)]) (hs : o.s = ByteArray.empty) (ha : i64ok o.a) (hon : i64ok o.on) (hkd : i64ok o.kind) : OpOk (oneF w k) o (.slice (some ⟨w.heap.size, 0, none⟩) 1 1) := by
  refine ⟨?_, by rw [hf]; simp, ?_, by rw [hs]; decide, ha, hon, hkd⟩
  · rw [hf]
    refine .inr ⟨w.heap.size, 0, 1, rfl, by simp [oneF], ?_⟩
    intro i hi
    simp at hi
    subst hi
    rw [oneF, cell_of_heap (heap_alloc_new w _)]
    rfl
  · intro z hz
    rw [hf] at hz
    simp at hz
    subst hz
    unfold i64ok
    omega

theorem tell_eval {I : (Nat → Prop) → World → Nat → CopS → Prop} {cF cT : Nat} (sp : CopseSpec I cF cT) {G : Nat → Prop} {w : World} {wb : Nat} {tbs : List Nat} {Ns : Nat → Nat} {i M c m : Nat} {wr : World} (h : TellSt I cF cT G w wb tbs Ns i M c m wr) (hi : i < tbs.length) (htb : tbs.length ≤ 4000000) (hN : Ns i + c ≤ 3000000) (k a : Nat) (hk : k ≤ 1000000) (ha : a ≤ 1000000) :
    Calls Tryz.prog 26 #[.pointer (some ⟨wb, 0, none⟩), .agg #[.int .i64 6, .int .i64 (i : Int), .int .i64 (a : Int), .bool false, .slice (some ⟨wr.heap.size, 0, none⟩) 1 1, .string ByteArray.empty]] (oneF wr k) fun e w' => e = .returned (.bool true) ∧ TellSt I cF cT G w wb tbs Ns i M (c + 1) m w' := by
  obtain ⟨L', OL', K', Os', h1, h2, h3⟩ := h
  subst h2
  have hb0 : Below wr.heap.size wr (oneF wr k) := (Below.refl _ _).alloc (Nat.le_refl _) _
  have h1' := h1.below sp hb0
  have ho := one_ok wr k hk ⟨6, i, a, false, [(k : Int)], ByteArray.empty⟩ rfl rfl (by unfold i64ok; dsimp only; omega) (by unfold i64ok; dsimp only; omega) (by unfold i64ok; dsimp only; omega)
  refine plays_asks h1'.law htb hi ho (pickI_self hi) (.inl rfl) (fun w1 hb => ?_)
  have h2' := h1'.below sp hb
  have hNi : setN Ns i (Ns i + c) i ≤ 3000000 := by rw [setN_at]; exact hN
  refine (lawEval sp (h2'.tw i hi) hNi (ho.below hb) rfl wb).mono ?_
  rintro e w' ⟨he, hp⟩
  obtain ⟨Os2, ha2, hon⟩ := h2'.step sp hi hp
  rw [setN_set, setN_at] at ha2
  exact ⟨he, L', OL', K', Os2, ha2, rfl, (h3.trans (only_of_below hb0 G) (Grows.refl _ _)).trans ((only_of_below hb G).trans hon (Grows.refl _ _)) (Grows.refl _ _)⟩

theorem tell_sup {I : (Nat → Prop) → World → Nat → CopS → Prop} {cF cT : Nat} (sp : CopseSpec I cF cT) {G : Nat → Prop} {w : World} {wb : Nat} {tbs : List Nat} {Ns : Nat → Nat} {i M c m : Nat} {wr : World} (h : TellSt I cF cT G w wb tbs Ns i M c m wr) (hi : i < tbs.length) (htb : tbs.length ≤ 4000000) (hN : Ns i + c ≤ 3000000) (hM : M + m ≤ 20000000) (k : Nat) (hk : k ≤ 1000000) :
    Calls Tryz.prog 26 #[.pointer (some ⟨wb, 0, none⟩), .agg #[.int .i64 7, .int .i64 (i : Int), .int .i64 0, .bool false, .slice (some ⟨wr.heap.size, 0, none⟩) 1 1, .string ByteArray.empty]] (oneF wr k) fun e w' => e = .returned (.bool true) ∧ TellSt I cF cT G w wb tbs Ns i M (c + 1) (m + 1) w' := by
  obtain ⟨L', OL', K', Os', h1, h2, h3⟩ := h
  subst h2
  have hb0 : Below wr.heap.size wr (oneF wr k) := (Below.refl _ _).alloc (Nat.le_refl _) _
  have h1' := h1.below sp hb0
  have ho := one_ok wr k hk ⟨7, i, 0, false, [(k : Int)], ByteArray.empty⟩ rfl rfl (by unfold i64ok; dsimp only; omega) (by unfold i64ok; dsimp only; omega) (by unfold i64ok; dsimp only; omega)
  refine plays_asks h1'.law htb hi ho (pickI_self hi) (.inr (.inl rfl)) (fun w1 hb => ?_)
  have h2' := h1'.below sp hb
  have hNi : setN Ns i (Ns i + c) i ≤ 3000000 := by rw [setN_at]; exact hN
  have hmt := h2'.mt
  have hmi := h2'.mi
  have hmn := h2'.mn
  refine (lawAsks sp (h2'.tw i hi) hNi (ho.below hb) (.inr (.inl rfl)) h2'.law (h2'.d i hi) (by omega) (by omega) (by omega)).mono ?_
  rintro e w' ⟨he, hp⟩
  obtain ⟨L2, OL2, K2, Os2, ha2, hl2, hon⟩ := h2'.ask sp hi hp
  rw [setN_set, setN_at] at ha2
  exact ⟨he, L2, OL2, K2, Os2, ha2, hl2, (h3.trans (only_of_below hb0 G) (Grows.refl _ _)).trans ((only_of_below hb G).trans hon (Grows.refl _ _)) (Grows.refl _ _)⟩

set_option maxHeartbeats 4000000 in
set_option maxRecDepth 20000 in
theorem lawTells {I : (Nat → Prop) → World → Nat → CopS → Prop} {cF cT : Nat} (sp : CopseSpec I cF cT) {G : Nat → Prop} {w : World} {wb : Nat} {L : LawS} {OL K : Nat → Prop} {Os : Nat → Nat → Prop} {Ns : Nat → Nat} {M : Nat} (h : AllIs I cF cT G w wb L OL K Os Ns M) (htb : L.tbs.length ≤ 4000000) {i : Nat} (hi : i < L.tbs.length) (hN : Ns i ≤ 2900000) (hM : M ≤ 19000000) :
    Calls Tryz.prog 28 #[.pointer (some ⟨wb, 0, none⟩), .int .i64 (i : Int)] w fun e w' => e = .returned (.bool true) ∧ TellSt I cF cT G w wb L.tbs Ns i M 3000 40 w' := by
  have hst0 : TellSt I cF cT G w wb L.tbs Ns i M 0 0 w := ⟨L, OL, K, Os, h.mono (fun j => by unfold setN; split <;> simp_all) (Nat.le_refl _), rfl, Only.refl _ _⟩
  obtain ⟨⟨av, tv, mv, iv, nv, hLa⟩, hK, hdk⟩ := h.law
  obtain ⟨g, cap, rfl, hgl, hgk⟩ := law_twin hLa hi
  have hwl := hLa.lt wb hLa.self
  have hav : w.cell? ⟨wb, 0, none⟩ = some (.slice (some ⟨g, 0, none⟩) L.tbs.length cap) := by rw [cell_of_heap hLa.cells]; rfl
  have hi' : i < 4000000 := by omega
  obtain ⟨tbs, htbs⟩ : ∃ tbs, tbs = L.tbs := ⟨_, rfl⟩
  rw [← htbs] at hst0 hi htb hgk hav ⊢
  have hlen := fun c m wr hh => tell_len (I := I) (cF := cF) (cT := cT) (G := G) (w := w) (wb := wb) (tbs := tbs) (Ns := Ns) (i := i) (M := M) (c := c) (m := m) (wr := wr) hh hi
  have heval := fun c m wr hh hn k a hk ha => tell_eval (I := I) (cF := cF) (cT := cT) sp (G := G) (w := w) (wb := wb) (tbs := tbs) (Ns := Ns) (i := i) (M := M) (c := c) (m := m) (wr := wr) hh hi htb hn k a hk ha
  have hsup := fun c m wr hh hn hm k hk => tell_sup (I := I) (cF := cF) (cT := cT) sp (G := G) (w := w) (wb := wb) (tbs := tbs) (Ns := Ns) (i := i) (M := M) (c := c) (m := m) (wr := wr) hh hi htb hn hm k hk
  clear hLa hK hdk h htbs
  generalize tbs.getD i 0 = tb at *
  generalize hn0 : tbs.length = n at *
  clear hn0
  go_enter Tryz.func28, Tryz.ntmps28
  go_wp2_with fail
  go_loopw [6] (fun kv wr => ∃ k : Nat, k ≤ 40 ∧ kv = .int .i64 k ∧ TellSt I cF cT G w wb tbs Ns i M (70 * k) k wr) (fun kv _ => 40 - (intOf kv).toNat)
  case atStart => exact ⟨0, by omega, rfl, hst0⟩
  case round =>
    obtain ⟨k, hk, rfl, hst⟩ := hrel
    obtain ⟨tao, tn, tcap, hc2⟩ := hlen _ _ _ hst
    obtain ⟨w1, hw1⟩ : ∃ w1, w1 = wr := ⟨_, rfl⟩
    subst hw1
    by_cases h1 : k < tn
    · by_cases h2 : k < 40
      · have hdk : decide ((k : Int) < 40) = true := decide_eq_true (by omega)
        go_wp2_with fail
        clear hdk
        go_loopw [7] (fun avl wr => ∃ a : Nat, a ≤ 66 ∧ avl = .int .i64 a ∧ TellSt I cF cT G w wb tbs Ns i M (70 * k + a) k wr) (fun avl _ => 66 - (intOf avl).toNat)
        case atStart => exact ⟨0, by omega, rfl, hst⟩
        case round =>
          obtain ⟨a, ha, rfl, hst2⟩ := hrel
          by_cases h3 : a < 64
          · have hev := heval _ _ _ hst2 (by omega) k a (by omega) (by omega)
            go_wp2_with (first | (go_at_call 26; refine hev.mono ?_; rintro e w9 ⟨rfl, hst3⟩))
            go_roundw
            case rel => exact ⟨a + 1 + k % 3, by omega, by go_num, hst3.mono (by omega) (Nat.le_refl _)⟩
            case measure => simp [intOf]; omega
          · have hsp := hsup _ _ _ hst2 (by omega) (by omega) k (by omega)
            go_wp2_with (first | (go_at_call 26; refine hsp.mono ?_; rintro e w9 ⟨rfl, hst3⟩))
            go_roundw
            case rel => exact ⟨k + 1, by omega, by go_num, hst3.mono (by omega) (Nat.le_refl _)⟩
            case measure => simp [intOf]; omega
      · go_wp2_with fail
        go_ret
        exact ⟨rfl, hst.mono (by omega) hk⟩
    · go_wp2_with fail
      go_ret
      exact ⟨rfl, hst.mono (by omega) hk⟩

end Go.Proofs.YtebfmcafmojlaaaGreatDoor

