/-
  copse: Move.
-/
import Derived.BigQuiet
import Derived.Test.YtebfmcafmojlaaaGreatDoorT34
namespace Go.Proofs.YtebfmcafmojlaaaGreatDoor
open Go.RowKit Go.Maps
set_option linter.unusedSimpArgs false
set_option linter.unusedVariables false

def fullM (C : CopS) (Lt : List Tab) (v t : Nat) : Prop := C.cap < ((allT (moveO C.order v t) Lt).length : Int)
def moveC (C : CopS) (v t : Nat) : CopS := { C with order := moveO C.order v t }

/-- Behind Move. -/
def PostMove (O : Nat → Prop) (w : World) (x : Nat) (C : CopS) (full : Prop) (C' : CopS) (e : Ending) (w' : World) : Prop :=
  (full ∧ e = .returned (.int .i64 5) ∧ CopStep CopI O w x w' C) ∨ (¬ full ∧ e = .returned (.int .i64 0) ∧ CopStep CopI O w x w' C')

theorem copC_moved {cap : Nat} {names : List ByteArray} {S S2 : GrS} {L : List (Value × Value)} {v t : Nat} (ho : S2.order = moveO S.order v t) (ht : ∀ r, liveH L r → S2.g.tab r = S.g.tab r) : copC cap names S2 L = moveC (copC cap names S L) v t := by
  have : (copC cap names S2 L).T = (copC cap names S L).T := copT_ext (fun r f => by
    rw [copC_T, copC_T]
    constructor
    · rintro ⟨h1, h2⟩; exact ⟨h1, by rw [← ht r h1]; exact h2⟩
    · rintro ⟨h1, h2⟩; exact ⟨h1, by rw [ht r h1]; exact h2⟩)
  unfold moveC
  unfold copC at this ⊢
  simp only [CopS.mk.injEq, true_and]
  exact ⟨ho, this⟩

theorem Lists.same {C C' : CopS} {Lt : List Tab} (h : Lists C Lt) (e : C'.T = C.T) : Lists C' Lt := by
  intro f
  rw [e]
  exact h f

/-- The new graph is taken. -/
theorem move_yes {O : Nat → Prop} {w w1 w2 : World} {x cap : Nat} {names : List ByteArray} {S S2 : GrS} {nv : Value} {gb lb gb2 : Nat} {L : List (Value × Value)} {Og : Nat → Prop} {v t : Nat} (hok : CopOk cap names S L) (hA : CopAt O w x cap names S nv gb lb L Og) (hgb : w.heap.size ≤ gb2) (hb : Below w.heap.size w w1) (hG : GrIs (fun b => w.heap.size ≤ b ∧ b < w1.heap.size) w1 gb2 S2) (hp : CopPre names S2 L) (hr : ∀ i, S2.g.has i → S2.g.Reach (liveH L) i) (ho : S2.order = moveO S.order v t) (ht : ∀ r, liveH L r → S2.g.tab r = S.g.tab r) (hsz : S2.nums.length ≤ cap)
    (e2 : w2 = w1.setCell ⟨x, 2, none⟩ (.pointer (some ⟨gb2, 0, none⟩))) : CopStep CopI O w x w2 (moveC (copC cap names S L) v t) := by
  have hA1 := hA.below hb
  have hxl := hA.lt x hA.self
  have hs1 := hb.size
  have hcx : w2.heap[x]? = some (.cells #[.int .i64 (cap : Nat), nv, .pointer (some ⟨gb2, 0, none⟩), .map (some lb)] 77 (0, 0)) := by
    rw [e2, heap_setCell_at hA1.cells]
    rfl
  have hoth : ∀ k, k ≠ x → w2.heap[k]? = w1.heap[k]? := fun k hk => by rw [e2]; exact Below.heap_setCell _ _ _ _ hk
  have hs2 : w2.heap.size = w1.heap.size := by rw [e2]; simp [World.setCell]
  obtain ⟨n1, n2, n3⟩ := hA1.ne
  refine ⟨?_, fun b => O b ∨ (w.heap.size ≤ b ∧ b < w1.heap.size), ⟨cap, names, S2, nv, gb2, lb, L, (fun b => w.heap.size ≤ b ∧ b < w1.heap.size), (copC_moved ho ht).symm, ⟨hp.mid hr (by have := hok.c300; omega), hok.c1, hok.c300, hsz⟩, ?_⟩, ?_⟩
  · rw [e2]
    exact (only_of_below hb O).setCell (p := ⟨x, 2, none⟩) (.inl hA.self) _
  · refine ⟨?_, .inl hA.self, .inl hA.ol, fun b hb => .inr hb, hcx, ?_, ?_, ?_, fun e => by omega, fun e => by have := hA.lt lb hA.ol; omega, fun b hb' e => by have := hA.lt b (hA.names.2 b hb'); omega⟩
    · rintro b (hb' | hb')
      · have := hA.lt b hb'; omega
      · omega
    · exact (hA1.names.same (fun k hk => hoth k (fun e => by subst e; exact n2 hk))).mono (fun b hb => .inl hb)
    · exact hG.keep (by omega) (fun k hk => hoth k (fun e => by omega))
    · exact hA1.live.same (hoth lb (fun e => n1 e.symm))
  · rintro b (hb' | hb')
    · exact .inl hb'
    · exact .inr hb'.1

theorem named_hit2 {names : List ByteArray} {name : ByteArray} {v : Nat} (hv : names.findIdx? (fun y => y.toList == name.toList) = some v) : namedI names name = (v : Nat) ∧ v < names.length := by
  refine ⟨by unfold namedI; rw [hv], ?_⟩
  rw [List.findIdx?_eq_some_iff_getElem] at hv
  exact hv.1

set_option maxHeartbeats 1000000 in
set_option maxRecDepth 10000 in
theorem copseMove_is {O : Nat → Prop} {w : World} {x : Nat} {C : CopS} (hI : CopI O w x C) (Lt : List Tab) (hL : Lists C Lt) (name : ByteArray) (v t : Nat) (hv : C.names.findIdx? (fun y => y.toList == name.toList) = some v) (ht : t < C.names.length) :
    Calls Tryz.prog 16 #[.pointer (some ⟨x, 0, none⟩), .string name, .int .i64 (t : Int)] w (PostMove O w x C (fullM C Lt v t) (moveC C v t)) := by
  obtain ⟨cap, names, S, nv, gb, lb, L, Og, rfl, hok, hA⟩ := hI
  obtain ⟨hnI, hvl⟩ := named_hit2 (names := names) hv
  have ht' : t < names.length := ht
  have hn6 := hok.mid.n6
  have hvo : v ∈ S.order := (hok.mid.order v).2 hvl
  have hto : t < S.order.length := by rw [hok.mid.olen]; exact ht'
  obtain ⟨nao, ncap, env⟩ := owns_form hA.names.1
  rw [List.length_map] at env
  have hidx := slicesIndexS_is nv names name w hA.namesRead (by omega)
  rw [hnI] at hidx
  have hmv := copseMoved_is hok hA hvo hto
  have hno : ∀ w1 S2, Below w.heap.size w w1 → CopPre names S2 L → (∀ i, S2.g.has i → S2.g.Reach (liveH L) i) → S2.order = moveO S.order v t → (∀ r, liveH L r → S2.g.tab r = S.g.tab r) → (fullM (copC cap names S L) Lt v t ↔ cap < S2.nums.length) := by
    intro w1 S2 hb hp hr ho htb
    have hc := hp.count (cap := cap) hr (hL.same (C' := copC cap names S2 L) (by rw [copC_moved ho htb]; rfl))
    rw [ho] at hc
    unfold fullM
    show ((cap : Nat) : Int) < ((allT (moveO S.order v t) Lt).length : Int) ↔ _
    rw [hc]
    omega
  have hfin : ∀ w1 e, MovedPost w names S L v t e w1 → ∃ gb2 m : Nat, e = .returned (.pointer (some ⟨gb2, 0, none⟩)) ∧ m ≤ 400000 ∧ Below w.heap.size w w1 ∧ (∀ W, Below w1.heap.size w1 W → Calls Tryz.prog 48 #[.pointer (some ⟨gb2, 0, none⟩)] W fun e w' => e = .returned (.int .i64 (m : Nat)) ∧ w' = W) ∧
      (cap < m → ∀ W, Below w1.heap.size w1 W → PostMove O w x (copC cap names S L) (fullM (copC cap names S L) Lt v t) (moveC (copC cap names S L) v t) (.returned (.int .i64 5)) W) ∧
      (m ≤ cap → ∀ W, Below w1.heap.size w1 W → PostMove O w x (copC cap names S L) (fullM (copC cap names S L) Lt v t) (moveC (copC cap names S L) v t) (.returned (.int .i64 0)) (W.setCell ⟨x, 2, none⟩ (.pointer (some ⟨gb2, 0, none⟩)))) := by
    rintro w1 e ⟨gb2, S2, rfl, hgb, hb, hG, hp, hr, ho, htb⟩
    have hf := hno w1 S2 hb hp hr ho htb
    refine ⟨gb2, S2.nums.length, rfl, ?_, hb, ?_, ?_, ?_⟩
    · have h1 : S2.nums.length ≤ S2.nl.length := by
        have := List.Nodup.length_le_of_subset (l₂ := List.range S2.nl.length) S2.nums_nodup (fun i hi => by
          obtain ⟨n, hn⟩ := GrS.mem_nums.1 hi
          exact List.mem_range.2 (GrS.node_lt hn))
        rwa [List.length_range] at this
      have := hp.nlen
      omega
    · intro W hW
      obtain ⟨ov, nv', fv, mb, rb, M, R, hAt⟩ := hG.below hW
      exact graphSize_is hAt
    · intro hc W hW
      have hbW := hb.trans (hW.mono hb.size)
      exact .inl ⟨hf.2 hc, rfl, only_of_below hbW O, O, ⟨cap, names, S, nv, gb, lb, L, Og, rfl, hok, hA.below hbW⟩, Grows.refl _ _⟩
    · intro hc W hW
      have hbW := hb.trans (hW.mono hb.size)
      have hsW := hW.size
      exact .inr ⟨fun h => by have := hf.1 h; omega, rfl, move_yes hok hA hgb hbW ((hG.below hW).wide (fun b hb => ⟨hb.1, by omega⟩) (fun b hb => hb.2)) hp hr ho htb hc rfl⟩
  have hxl := hA.lt x hA.self
  have c0 := hA.c.1
  have c1 := hA.c.2.1
  have hcx : ∀ w1, Below w.heap.size w w1 → w1.cell? ⟨x, 0, none⟩ = some (.int .i64 (cap : Nat)) ∧ w1.cell? ⟨x, 2, none⟩ = some (.pointer (some ⟨gb, 0, none⟩)) ∧ w1.frozen? ⟨x, 2, none⟩ = false := fun w1 hb => ⟨(hA.below hb).c.1, (hA.below hb).c.2.2.1, frozen_of_heap (hA.below hb).cells⟩
  have hcap := hok.c300
  have HF : Hid _ := hfin
  have HC : Hid _ := hcx
  subst env
  clear hfin hno hok hA hL hv ht hnI hvo hto hcx
  go_enter Tryz.func16, Tryz.ntmps16
  go_upto_region 7 with (first
    | (go_at_call 46; refine hidx.mono ?_; clear hidx; rintro e w0 ⟨rfl, hq⟩; replace hq := hq.symm; subst hq)
    | (go_at_call 47; refine hmv.mono ?_; clear hmv; rintro e w1 hpost; obtain ⟨gb2, m, rfl, hm4, hb1, hsz, hy, hn⟩ := HF.out _ _ hpost; clear HF hpost; obtain ⟨d0, d2, d3⟩ := HC.out _ hb1; clear HC))
  have hszq : ∀ nq, Calls Tryz.prog 48 #[.pointer (some ⟨gb2, 0, none⟩)] (w1.drewN nq) fun e w' => e = .returned (.int .i64 (m : Nat)) ∧ ∃ mq, w' = w1.drewN mq := by
    intro nq
    refine (hsz _ (below_drewN (Below.refl _ _) nq)).mono ?_
    rintro e w' ⟨he, hw⟩
    exact ⟨he, nq, hw⟩
  clear hsz c0 c1 hb1 hxl
  by_cases hmc : cap < m
  · have hdone := hy hmc
    have e1 : decide ((cap : Int) < (m : Int)) = true := by simpa using hmc
    have HD : Hid _ := hdone
    clear hy hn hdone
    go_quiet (first | (go_at_call 48; exact hszq _))
    all_goals
      clear hszq
      go_wp2_with fail
      go_ret
      exact HD.out _ (below_drewN (Below.refl _ _) _)
  · have hdone := hn (by omega)
    have e1 : decide ((cap : Int) < (m : Int)) = false := by simpa using hmc
    have HD : Hid _ := hdone
    clear hy hn hdone
    go_quiet (first | (go_at_call 48; exact hszq _))
    all_goals
      clear hszq
      go_wp2_with fail
      go_ret
      exact HD.out _ (below_drewN (Below.refl _ _) _)

theorem CopI.ord {O : Nat → Prop} {w : World} {x : Nat} {C : CopS} (hI : CopI O w x C) : C.order.Nodup ∧ ∀ v, v ∈ C.order ↔ v < C.names.length := by
  obtain ⟨cap, names, S, nv, gb, lb, L, Og, rfl, hok, hA⟩ := hI
  exact ⟨hok.mid.k.nodup, hok.mid.order⟩

theorem copseLive_is {O : Nat → Prop} {w : World} {x : Nat} {C : CopS} (hI : CopI O w x C) (Lt : List Tab) (hL : Lists C Lt) :
    Calls Tryz.prog 21 #[.pointer (some ⟨x, 0, none⟩)] w fun e w' => e = .returned (.int .i64 ((allT C.order Lt).length : Nat)) ∧ w' = w := by
  obtain ⟨cap, names, S, nv, gb, lb, L, Og, rfl, hok, hA⟩ := hI
  have hc := hok.mid.count (cap := cap) (S0 := S) (fs := Lt) rfl (fun q hq => rfl) hL (fun f => by simp)
  have hc' : (allT (copC cap names S L).order Lt).length = S.nums.length := hc
  rw [hc']
  exact copseLive_num hA

end Go.Proofs.YtebfmcafmojlaaaGreatDoor

/-
  copse: Order.
-/
namespace Go.Proofs.YtebfmcafmojlaaaGreatDoor
open Go.RowKit Go.Maps
set_option linter.unusedSimpArgs false
set_option linter.unusedVariables false

set_option maxHeartbeats 400000 in
set_option maxRecDepth 10000 in
theorem graphOrder_is {O : Nat → Prop} {w : World} {gb : Nat} {S : GrS} (hG : GrIs O w gb S) :
    Calls Tryz.prog 45 #[.pointer (some ⟨gb, 0, none⟩)] w fun e w' => ∃ v', e = .returned v' ∧ w'.ownsRow w.heap.size 3 1 v' S.order.length (S.order.map natv) ∧ Below w.heap.size w w' := by
  obtain ⟨ov, nv, fv, mb, rb, M, R, hA⟩ := hG
  have c0 := hA.c.1
  have hro := hA.order.1
  rw [List.length_map] at hro
  have hol := hA.ol
  have hcl := slicesCloneI hro (by omega)
  clear hA hro hol
  go_enter Tryz.func45, Tryz.ntmps45
  go_wp2_with (go_at_call 90; refine hcl.mono ?_; clear hcl; rintro e w1 ⟨v', rfl, hrow, hb⟩; obtain ⟨vao, vcap, rfl⟩ := owns_form hrow)
  go_ret
  exact ⟨_, rfl, hrow, hb⟩

/-- The names in an order. -/
def namesO (names : List ByteArray) (o : List Nat) : List ByteArray := o.map (fun u => names.getD u ByteArray.empty)

set_option maxHeartbeats 1000000 in
set_option maxRecDepth 10000 in
theorem copseOrder_is {O : Nat → Prop} {w : World} {x : Nat} {C : CopS} (hI : CopI O w x C) :
    Calls Tryz.prog 15 #[.pointer (some ⟨x, 0, none⟩)] w fun e w' => ∃ v, e = .returned v ∧ w'.ownsRow w.heap.size 9 1 v C.order.length ((namesO C.names C.order).map Value.string) ∧ Below w.heap.size w w' := by
  obtain ⟨i0, hi, hz0, hz1, hz2⟩ := info_parts Tryz.infoStr
  obtain ⟨cap, names, S, nv, gb, lb, L, Og, rfl, hok, hA⟩ := hI
  have hC : (copC cap names S L).order = S.order ∧ (copC cap names S L).names = names := ⟨rfl, rfl⟩
  rw [hC.1, hC.2]
  unfold namesO
  have hxl := hA.lt x hA.self
  have c1 := hA.c.2.1
  have c2 := hA.c.2.2.1
  obtain ⟨nao, ncap, env⟩ := owns_form hA.names.1
  rw [List.length_map] at env
  subst env
  have hnm : ∀ u, u ∈ S.order → u < names.length ∧ ∃ nb, nao = some ⟨nb, 0, none⟩ ∧ nb < w.heap.size ∧ w.cell? ⟨nb, u, none⟩ = some (.string (names.getD u ByteArray.empty)) := by
    intro u hu
    have hul := (hok.mid.order u).1 hu
    have hrow := hA.names.1
    rw [List.length_map] at hrow
    rcases hrow.2 with ⟨e, e0⟩ | ⟨g, cp, cur, e, _⟩
    · omega
    · cases e
      refine ⟨hul, g, rfl, (hrow.lt g rfl).2, ?_⟩
      rw [hrow.cellAt u (by omega), List.getElem?_map, List.getD_eq_getElem?_getD, List.getElem?_eq_getElem hul]
      rfl
  have hs6 : S.order.length ≤ 6 := by
    have := hok.mid.olen
    have := hok.mid.n6
    omega
  have hord := graphOrder_is hA.graph
  have HN : Hid _ := hnm
  obtain ⟨V, hV⟩ : ∃ V, V = S.order := ⟨_, rfl⟩
  rw [← hV] at hord HN hs6 ⊢
  clear hnm hV hok hA hC
  go_enter Tryz.func15, Tryz.ntmps15
  go_wp2_with (go_at_call 45; refine hord.mono ?_; clear hord; rintro e w3 ⟨v, rfl, hrow, hb3⟩; obtain ⟨vao, vcap, rfl⟩ := owns_form hrow)
  have hvc : ∀ m, m < V.length → ∃ vb, vao = some ⟨vb, 0, none⟩ ∧ vb < w3.heap.size ∧ w3.cell? ⟨vb, m, none⟩ = some (.int .i64 (V.getD m 0 : Nat)) := by
    intro m hm
    rcases hrow.2 with ⟨e, e0⟩ | ⟨g, cp, cur, e, _⟩
    · omega
    · cases e
      refine ⟨g, rfl, (hrow.lt g rfl).2, ?_⟩
      rw [hrow.cellAt m (by omega), List.getElem?_map, List.getD_eq_getElem?_getD, List.getElem?_eq_getElem hm]
      rfl
  have hnc : ∀ m, m < V.length → V.getD m 0 < names.length ∧ ∃ nb, nao = some ⟨nb, 0, none⟩ ∧ nb < w3.heap.size ∧ w3.cell? ⟨nb, V.getD m 0, none⟩ = some (.string (names.getD (V.getD m 0) ByteArray.empty)) := by
    intro m hm
    obtain ⟨h1, nb, h2, h3, h4⟩ := HN.out (V.getD m 0) (by rw [List.getD_eq_getElem?_getD, List.getElem?_eq_getElem hm]; exact List.getElem_mem hm)
    exact ⟨h1, nb, h2, Nat.lt_of_lt_of_le h3 hb3.size, (hb3.cell (p := ⟨nb, V.getD m 0, none⟩) h3).trans h4⟩
  have HV : Hid _ := hvc
  have HNC : Hid _ := hnc
  have HQ1 : Hid (w3.cell? ⟨x, 1, none⟩ = some (.slice nao names.length ncap) ∧ x < w3.heap.size) := ⟨(hb3.cell (p := ⟨x, 1, none⟩) hxl).trans c1, Nat.lt_of_lt_of_le hxl hb3.size⟩
  have HB : Hid (Below w.heap.size w w3) := hb3
  clear hvc hnc hrow HN hb3 c1 c2 hxl
  go_loopw [3, 12] (fun sv iv wr => ∃ m : Nat, m ≤ V.length ∧ iv = .int .i64 (m : Nat) ∧ wr.ownsRow w3.heap.size 9 1 sv (V.take m).length (((V.take m).map (fun u => names.getD u ByteArray.empty)).map Value.string) ∧ Below w3.heap.size w3 wr) (fun _ iv _ => V.length - (intOf iv).toNat)
  case atStart => exact ⟨0, Nat.zero_le _, rfl, by simp; exact World.ownsRow_nil _ _ _ _, Below.refl _ _⟩
  case round =>
    obtain ⟨m, hm, rfl, hown, hbq⟩ := hrel
    by_cases hml : m < V.length
    · obtain ⟨vb, h1, h2, h3⟩ := HV.out m hml
      subst h1
      obtain ⟨hul, nb, h4, h5, h6⟩ := HNC.out m hml
      subst h4
      have d1 := (hbq.cell (p := ⟨vb, m, none⟩) h2).trans h3
      have d2 := (hbq.cell (p := ⟨x, 1, none⟩) HQ1.out.2).trans HQ1.out.1
      have d3 := (hbq.cell (p := ⟨nb, V.getD m 0, none⟩) h5).trans h6
      have hsu : V.take (m + 1) = V.take m ++ [V.getD m 0] := by
        rw [List.take_add_one, List.getElem?_eq_getElem hml, List.getD_eq_getElem?_getD, List.getElem?_eq_getElem hml]
        rfl
      have htl : (V.take m).length ≤ 6 := by rw [List.length_take]; omega
      have happ : ∀ (w' : World) (v' : Value), w'.ownsRow w3.heap.size 9 1 v' ((V.take m).length + 1) (((V.take m).map (fun u => names.getD u ByteArray.empty)).map Value.string ++ [Value.string (names.getD (V.getD m 0) ByteArray.empty)]) → w'.ownsRow w3.heap.size 9 1 v' (V.take (m + 1)).length (((V.take (m + 1)).map (fun u => names.getD u ByteArray.empty)).map Value.string) := by
        intro w' v' h
        rw [hsu, List.map_append, List.map_append, List.length_append]
        exact h
      have HA : Hid _ := happ
      obtain ⟨U, hU⟩ : ∃ U, U = V.getD m 0 := ⟨_, rfl⟩
      rw [← hU] at d1 d3 hul HA
      obtain ⟨sN, hsN⟩ : ∃ sN, sN = names.getD U ByteArray.empty := ⟨_, rfl⟩
      rw [← hsN] at d3 HA
      obtain ⟨T, hT⟩ : ∃ T, T = (V.take m).length := ⟨_, rfl⟩
      rw [← hT] at hown htl HA
      obtain ⟨X, hX⟩ : ∃ X, X = ((V.take m).map (fun u => names.getD u ByteArray.empty)).map Value.string := ⟨_, rfl⟩
      rw [← hX] at hown HA
      clear hsu happ hU hsN hT hX h2 h3 h5 h6
      go_wp2_with (at_builtin; refine wpList_append_placed rfl (.tmp 16) (.tmp 24) 39 rfl w3.heap.size 9 i0 (.string ByteArray.empty) 1 16 Tryz.underlying39 hi hz0 hz1 hz2 rfl (by decide) _ T X rfl (hown.alloc _) _ 1 1 [Value.string sN] rfl rfl ?_ ?_ ?_ ?_ ?_ ?_; exact cell_one_new _ _ _; exact one_cell_s _; exact le_max5 (by omega); omega; exact Nat.le_trans hbq.size (by simp); intro v' w5 ho hg hp; have hb5 := ((hbq.alloc hbq.size _).grown hg (Nat.le_trans hbq.size (by simp)) (fun k hk => (hown.lt k hk).1)); have HQ : Hid (w5.ownsRow w3.heap.size 9 1 v' (V.take (m + 1)).length (((V.take (m + 1)).map (fun u => names.getD u ByteArray.empty)).map Value.string) ∧ Below w3.heap.size w3 w5) := ⟨HA.out _ _ ho, hb5⟩; clear ho hg hp hb5 HA)
      exact ⟨⟨m + 1, by omega, congrArg (Value.int .i64) (by omega), HQ.out.1, HQ.out.2⟩, by simp [intOf]; omega⟩
    · have hm' : m = V.length := by omega
      subst hm'
      rw [List.take_of_length_le (Nat.le_refl _)] at hown
      obtain ⟨ao, cp, e⟩ := owns_form hown
      subst e
      have hb' := HB.out.trans (hbq.mono HB.out.size)
      have HQ : Hid (_ ∧ _) := And.intro (ownsRow_base hown HB.out.size) hb'
      clear hown hbq hb'
      go_wp2_with fail
      go_ret
      exact ⟨_, rfl, HQ.out.1, HQ.out.2⟩

/-! Refusals. -/

set_option maxHeartbeats 1000000 in
set_option maxRecDepth 10000 in
theorem copseMove_name {O : Nat → Prop} {w : World} {x : Nat} {C : CopS} (hI : CopI O w x C) (name : ByteArray) (t : Int) (hn : namedI C.names name = -1) :
    Calls Tryz.prog 16 #[.pointer (some ⟨x, 0, none⟩), .string name, .int .i64 t] w fun e w' => e = .returned (.int .i64 2) ∧ w' = w := by
  obtain ⟨cap, names, S, nv, gb, lb, L, Og, rfl, hok, hA⟩ := hI
  have hn' : namedI names name = -1 := hn
  have hn6 := hok.mid.n6
  have hidx := slicesIndexS_is nv names name w hA.namesRead (by omega)
  rw [hn'] at hidx
  have c1 := hA.c.2.1
  obtain ⟨nao, ncap, env⟩ := owns_form hA.names.1
  rw [List.length_map] at env
  subst env
  clear hok hA hn hn'
  go_enter Tryz.func16, Tryz.ntmps16
  go_wp2_with (first
    | (go_at_call 46; refine hidx.mono ?_; clear hidx; rintro e w0 ⟨rfl, hq⟩; replace hq := hq.symm; subst hq))
  go_ret
  exact ⟨rfl, rfl⟩

set_option maxHeartbeats 1000000 in
set_option maxRecDepth 10000 in
theorem copseMove_arg {O : Nat → Prop} {w : World} {x : Nat} {C : CopS} (hI : CopI O w x C) (name : ByteArray) (t : Int) (ht : i64ok t) (hn : 0 ≤ namedI C.names name) (hto : t < 0 ∨ (C.names.length : Int) ≤ t) :
    Calls Tryz.prog 16 #[.pointer (some ⟨x, 0, none⟩), .string name, .int .i64 t] w fun e w' => e = .returned (.int .i64 1) ∧ w' = w := by
  obtain ⟨cap, names, S, nv, gb, lb, L, Og, rfl, hok, hA⟩ := hI
  have hn' : 0 ≤ namedI names name := hn
  have hto' : t < 0 ∨ (names.length : Int) ≤ t := hto
  have hn6 := hok.mid.n6
  have hidx := slicesIndexS_is nv names name w hA.namesRead (by omega)
  have c1 := hA.c.2.1
  obtain ⟨nao, ncap, env⟩ := owns_form hA.names.1
  rw [List.length_map] at env
  subst env
  obtain ⟨z, hz⟩ : ∃ z, z = namedI names name := ⟨_, rfl⟩
  rw [← hz] at hidx hn'
  have e0 : decide (z < 0) = false := by simp; omega
  clear hok hA hn hto hz
  by_cases h0 : t < 0
  · have e1 : decide (t < 0) = true := by simpa using h0
    go_enter Tryz.func16, Tryz.ntmps16
    go_wp2_with (first
      | (go_at_call 46; refine hidx.mono ?_; clear hidx; rintro e w0 ⟨rfl, hq⟩; replace hq := hq.symm; subst hq))
    go_ret
    exact ⟨rfl, rfl⟩
  · have h1 : (names.length : Int) ≤ t := by omega
    have e1 : decide (t < 0) = false := by simpa using h0
    have e2 : decide ((names.length : Int) ≤ t) = true := by simpa using h1
    clear hto'
    go_enter Tryz.func16, Tryz.ntmps16
    go_wp2_with (first
      | (go_at_call 46; refine hidx.mono ?_; clear hidx; rintro e w0 ⟨rfl, hq⟩; replace hq := hq.symm; subst hq))
    go_ret
    exact ⟨rfl, rfl⟩

end Go.Proofs.YtebfmcafmojlaaaGreatDoor

/-
  copse: sifted, Sift.
-/
namespace Go.Proofs.YtebfmcafmojlaaaGreatDoor
open Go.RowKit Go.Maps
set_option linter.unusedSimpArgs false
set_option linter.unusedVariables false

/-- The best of the places 0 to t, the first of them. -/
def bestTo (o : List Nat) (v : Nat) (Lt : List Tab) : Nat → List Nat
  | 0 => moveO o v 0
  | t + 1 => if (allT (moveO o v (t + 1)) Lt).length < (allT (bestTo o v Lt t) Lt).length then moveO o v (t + 1) else bestTo o v Lt t

/-- The order behind the first k variables. -/
def siftN (o : List Nat) (n : Nat) (Lt : List Tab) : Nat → List Nat
  | 0 => o
  | k + 1 => bestTo (siftN o n Lt k) k Lt (n - 1)

theorem best_le (o : List Nat) (v : Nat) (Lt : List Tab) : ∀ (m t : Nat), t ≤ m → (allT (bestTo o v Lt m) Lt).length ≤ (allT (moveO o v t) Lt).length := by
  intro m
  induction m with
  | zero => intro t ht; have : t = 0 := by omega
            subst this; exact Nat.le_refl _
  | succ m ih =>
    intro t ht
    unfold bestTo
    by_cases c : (allT (moveO o v (m + 1)) Lt).length < (allT (bestTo o v Lt m) Lt).length
    · rw [if_pos c]
      by_cases e : t = m + 1
      · subst e; exact Nat.le_refl _
      · have := ih t (by omega); omega
    · rw [if_neg c]
      by_cases e : t = m + 1
      · subst e; omega
      · exact ih t (by omega)

/-- A graph of new blocks, of the order o', swept. -/
def GraphPost (w : World) (names : List ByteArray) (S : GrS) (L : List (Value × Value)) (o' : List Nat) (e : Ending) (w' : World) : Prop :=
  ∃ gb2 S2, e = .returned (.pointer (some ⟨gb2, 0, none⟩)) ∧ w.heap.size ≤ gb2 ∧ Below w.heap.size w w' ∧ GrIs (fun b => w.heap.size ≤ b ∧ b < w'.heap.size) w' gb2 S2 ∧ CopPre names S2 L ∧ (∀ i, S2.g.has i → S2.g.Reach (liveH L) i) ∧ S2.order = o' ∧ ∀ r, liveH L r → S2.g.tab r = S.g.tab r

theorem MovedPost.graph {w : World} {names : List ByteArray} {S : GrS} {L : List (Value × Value)} {v t : Nat} {e : Ending} {w' : World} (h : MovedPost w names S L v t e w') : GraphPost w names S L (moveO S.order v t) e w' := h

theorem GraphPost.below {w : World} {names : List ByteArray} {S : GrS} {L : List (Value × Value)} {o' : List Nat} {e : Ending} {w' w'' : World} (h : GraphPost w names S L o' e w') (hb : Below w'.heap.size w' w'') : GraphPost w names S L o' e w'' := by
  obtain ⟨gb2, S2, h1, h2, h3, h4, h5, h6, h7, h8⟩ := h
  exact ⟨gb2, S2, h1, h2, h3.trans (hb.mono h3.size), (h4.below hb).wide (fun b hb' => ⟨hb'.1, Nat.lt_of_lt_of_le hb'.2 hb.size⟩) (fun b hb' => hb'.2), h5, h6, h7, h8⟩

theorem GraphPost.from {w w1 : World} {names : List ByteArray} {S : GrS} {L : List (Value × Value)} {o' : List Nat} {e : Ending} {w' : World} (h : GraphPost w1 names S L o' e w') (hb : Below w.heap.size w w1) : GraphPost w names S L o' e w' := by
  obtain ⟨gb2, S2, h1, h2, h3, h4, h5, h6, h7, h8⟩ := h
  have := hb.size
  exact ⟨gb2, S2, h1, by omega, hb.trans (h3.mono this), h4.wide (fun b hb' => ⟨by omega, hb'.2⟩) (fun b hb' => hb'.2), h5, h6, h7, h8⟩

theorem copC_order {cap : Nat} {names : List ByteArray} {S S2 : GrS} {L : List (Value × Value)} {o' : List Nat} (ho : S2.order = o') (ht : ∀ r, liveH L r → S2.g.tab r = S.g.tab r) : copC cap names S2 L = { copC cap names S L with order := o' } := by
  have : (copC cap names S2 L).T = (copC cap names S L).T := copT_ext (fun r f => by
    rw [copC_T, copC_T]
    constructor
    · rintro ⟨h1, h2⟩; exact ⟨h1, by rw [← ht r h1]; exact h2⟩
    · rintro ⟨h1, h2⟩; exact ⟨h1, by rw [ht r h1]; exact h2⟩)
  unfold copC at this ⊢
  simp only [CopS.mk.injEq, true_and]
  exact ⟨ho, this⟩

/-- How many nodes it has. -/
theorem GraphPost.size {w : World} {cap : Nat} {names : List ByteArray} {S : GrS} {L : List (Value × Value)} {o' : List Nat} {gb2 : Nat} {w' : World} (h : GraphPost w names S L o' (.returned (.pointer (some ⟨gb2, 0, none⟩))) w') {Lt : List Tab} (hL : Lists (copC cap names S L) Lt) :
    Calls Tryz.prog 48 #[.pointer (some ⟨gb2, 0, none⟩)] w' fun e w2 => e = .returned (.int .i64 ((allT o' Lt).length : Nat)) ∧ w2 = w' := by
  obtain ⟨gb3, S2, h1, h2, h3, h4, h5, h6, h7, h8⟩ := h
  simp only [Ending.returned.injEq, Value.pointer.injEq, Option.some.injEq, Addr.mk.injEq, and_true] at h1
  subst h1
  have hc := h5.count (cap := cap) h6 (hL.same (C' := copC cap names S2 L) (by rw [copC_order h7 h8]))
  rw [h7] at hc
  rw [hc]
  obtain ⟨ov, nv', fv, mb, rb, M, R, hAt⟩ := h4
  exact graphSize_is hAt

/-- It is taken. -/
theorem GraphPost.taken {O : Nat → Prop} {w w1 w2 : World} {x cap : Nat} {names : List ByteArray} {S : GrS} {nv : Value} {gb lb gb2 : Nat} {L : List (Value × Value)} {Og : Nat → Prop} {o' : List Nat} (h : GraphPost w names S L o' (.returned (.pointer (some ⟨gb2, 0, none⟩))) w1) (hok : CopOk cap names S L) (hA : CopAt O w x cap names S nv gb lb L Og) {Lt : List Tab} (hL : Lists (copC cap names S L) Lt) (hsz : (allT o' Lt).length ≤ cap)
    (e2 : w2 = w1.setCell ⟨x, 2, none⟩ (.pointer (some ⟨gb2, 0, none⟩))) : CopStep CopI O w x w2 { copC cap names S L with order := o' } := by
  obtain ⟨gb3, S2, h1, hgb, hb, hG, hp, hr, ho, ht⟩ := h
  simp only [Ending.returned.injEq, Value.pointer.injEq, Option.some.injEq, Addr.mk.injEq, and_true] at h1
  subst h1
  have hc := hp.count (cap := cap) hr (hL.same (C' := copC cap names S2 L) (by rw [copC_order ho ht]))
  rw [ho] at hc
  rw [hc] at hsz
  have hA1 := hA.below hb
  have hxl := hA.lt x hA.self
  have hs1 := hb.size
  have hcx : w2.heap[x]? = some (.cells #[.int .i64 (cap : Nat), nv, .pointer (some ⟨gb2, 0, none⟩), .map (some lb)] 77 (0, 0)) := by
    rw [e2, heap_setCell_at hA1.cells]
    rfl
  have hoth : ∀ k, k ≠ x → w2.heap[k]? = w1.heap[k]? := fun k hk => by rw [e2]; exact Below.heap_setCell _ _ _ _ hk
  have hs2 : w2.heap.size = w1.heap.size := by rw [e2]; simp [World.setCell]
  obtain ⟨n1, n2, n3⟩ := hA1.ne
  refine ⟨?_, fun b => O b ∨ (w.heap.size ≤ b ∧ b < w1.heap.size), ⟨cap, names, S2, nv, gb2, lb, L, (fun b => w.heap.size ≤ b ∧ b < w1.heap.size), (copC_order ho ht).symm, ⟨hp.mid hr (by have := hok.c300; omega), hok.c1, hok.c300, hsz⟩, ?_⟩, ?_⟩
  · rw [e2]
    exact (only_of_below hb O).setCell (p := ⟨x, 2, none⟩) (.inl hA.self) _
  · refine ⟨?_, .inl hA.self, .inl hA.ol, fun b hb => .inr hb, hcx, ?_, ?_, ?_, fun e => by omega, fun e => by have := hA.lt lb hA.ol; omega, fun b hb' e => by have := hA.lt b (hA.names.2 b hb'); omega⟩
    · rintro b (hb' | hb')
      · have := hA.lt b hb'; omega
      · omega
    · exact (hA1.names.same (fun k hk => hoth k (fun e => by subst e; exact n2 hk))).mono (fun b hb => .inl hb)
    · exact hG.keep (by omega) (fun k hk => hoth k (fun e => by omega))
    · exact hA1.live.same (hoth lb (fun e => n1 e.symm))
  · rintro b (hb' | hb')
    · exact .inl hb'
    · exact .inr hb'.1

theorem all_small {o : List Nat} {Lt : List Tab} (h : (allT o Lt).length ≤ 80000) : ((allT o Lt).length : Int) ≤ 80000 := by omega

theorem GraphPost.few {w : World} {cap : Nat} {names : List ByteArray} {S : GrS} {L : List (Value × Value)} {o' : List Nat} {e : Ending} {w' : World} (h : GraphPost w names S L o' e w') {Lt : List Tab} (hL : Lists (copC cap names S L) Lt) : (allT o' Lt).length ≤ 80000 := by
  obtain ⟨gb3, S2, h1, h2, h3, h4, h5, h6, h7, h8⟩ := h
  have hc := h5.count (cap := cap) h6 (hL.same (C' := copC cap names S2 L) (by rw [copC_order h7 h8]))
  rw [h7] at hc
  rw [hc]
  have h1 : S2.nums.length ≤ S2.nl.length := by
    have := List.Nodup.length_le_of_subset (l₂ := List.range S2.nl.length) S2.nums_nodup (fun i hi => by
      obtain ⟨n, hn⟩ := GrS.mem_nums.1 hi
      exact List.mem_range.2 (GrS.node_lt hn))
    rwa [List.length_range] at this
  have := h5.nlen
  omega

set_option maxHeartbeats 1000000 in
set_option maxRecDepth 10000 in
theorem copseSifted_is {O : Nat → Prop} {w : World} {x cap : Nat} {names : List ByteArray} {S : GrS} {nv : Value} {gb lb : Nat} {L : List (Value × Value)} {Og : Nat → Prop} {v : Nat} (hok : CopOk cap names S L) (hA : CopAt O w x cap names S nv gb lb L Og) (hv : v < names.length) {Lt : List Tab} (hL : Lists (copC cap names S L) Lt) :
    Calls Tryz.prog 156 #[.pointer (some ⟨x, 0, none⟩), .int .i64 (v : Int)] w (GraphPost w names S L (bestTo S.order v Lt (names.length - 1))) := by
  have hn6 := hok.mid.n6
  have hvo : v ∈ S.order := (hok.mid.order v).2 hv
  have hol := hok.mid.olen
  obtain ⟨nao, ncap, env⟩ := owns_form hA.names.1
  rw [List.length_map] at env
  subst env
  have hxl := hA.lt x hA.self
  have c1 := hA.c.2.1
  have hmv : ∀ (t : Nat) (w1 : World), t < names.length → Below w.heap.size w w1 → Calls Tryz.prog 47 #[.pointer (some ⟨x, 0, none⟩), .int .i64 (v : Int), .int .i64 (t : Int)] w1 (fun e w2 => ∃ g, e = .returned (.pointer (some ⟨g, 0, none⟩)) ∧ Below w1.heap.size w1 w2 ∧ GraphPost w names S L (moveO S.order v t) (.returned (.pointer (some ⟨g, 0, none⟩))) w2) := by
    intro t w1 ht hb
    refine (copseMoved_is hok (hA.below hb) hvo (by omega)).mono ?_
    intro e w2 hp
    have hp' := hp.graph
    obtain ⟨g, S2, rfl, q1, q2, q3⟩ := hp
    exact ⟨g, rfl, q2, hp'.from hb⟩
  have hm0 := hmv 0 w (by omega) (Below.refl _ _)
  have HM : Hid _ := hmv
  have HL : Hid (Lists (copC cap names S L) Lt) := hL
  clear hok hA hvo hmv hL
  go_enter Tryz.func156, Tryz.ntmps156
  go_wp2_with (go_at_call 47; refine hm0.mono ?_; clear hm0; rintro e w1 ⟨g, rfl, hb1, hg1⟩; have HG : Hid (GraphPost w names S L (moveO S.order v 0) (.returned (.pointer (some ⟨g, 0, none⟩))) w1) := hg1; clear hg1)
  go_loopw [5, 6] (fun bv iv wr => ∃ (t gq : Nat), t + 1 ≤ names.length ∧ iv = .int .i64 ((t + 1 : Nat) : Int) ∧ bv = .pointer (some ⟨gq, 0, none⟩) ∧ GraphPost w names S L (bestTo S.order v Lt t) (.returned (.pointer (some ⟨gq, 0, none⟩))) wr) (fun _ iv _ => names.length - (intOf iv).toNat)
  case atStart => exact ⟨0, g, by omega, rfl, rfl, HG.out⟩
  case round =>
    obtain ⟨t, gq, ht, rfl, rfl, hgp⟩ := hrel
    clear HG
    have hbr : Below w.heap.size w wr := by obtain ⟨_, _, _, _, h, _⟩ := hgp; exact h
    have d1 := (hbr.cell (p := ⟨x, 1, none⟩) hxl).trans c1
    by_cases hlt : t + 1 < names.length
    · have hm := HM.out (t + 1) wr hlt hbr
      have hfew := hgp.few HL.out
      have hstep : ∀ w2 g2, Below wr.heap.size wr w2 → GraphPost w names S L (moveO S.order v (t + 1)) (.returned (.pointer (some ⟨g2, 0, none⟩))) w2 → ∃ m1 m2 : Nat, m1 ≤ 80000 ∧ m2 ≤ 80000 ∧ (Calls Tryz.prog 48 #[.pointer (some ⟨g2, 0, none⟩)] w2 fun e w3 => e = .returned (.int .i64 (m1 : Nat)) ∧ w3 = w2) ∧ (Calls Tryz.prog 48 #[.pointer (some ⟨gq, 0, none⟩)] w2 fun e w3 => e = .returned (.int .i64 (m2 : Nat)) ∧ w3 = w2) ∧ (m1 < m2 → GraphPost w names S L (bestTo S.order v Lt (t + 1)) (.returned (.pointer (some ⟨g2, 0, none⟩))) w2) ∧ (¬ m1 < m2 → GraphPost w names S L (bestTo S.order v Lt (t + 1)) (.returned (.pointer (some ⟨gq, 0, none⟩))) w2) := by
        intro w2 g2 hb2 hg2
        have hgq := hgp.below hb2
        refine ⟨(allT (moveO S.order v (t + 1)) Lt).length, (allT (bestTo S.order v Lt t) Lt).length, hg2.few HL.out, hfew, hg2.size HL.out, hgq.size HL.out, ?_, ?_⟩
        · intro h
          have e : bestTo S.order v Lt (t + 1) = moveO S.order v (t + 1) := by show (if _ then _ else _) = _; rw [if_pos h]
          rw [e]; exact hg2
        · intro h
          have e : bestTo S.order v Lt (t + 1) = bestTo S.order v Lt t := by show (if _ then _ else _) = _; rw [if_neg h]
          rw [e]; exact hgq
      have HS : Hid _ := hstep
      clear hstep hgp hfew HM HL c1
      go_upto_region 6 with (go_at_call 47; refine hm.mono ?_; clear hm; rintro e w2 ⟨g2, rfl, hb2, hg2⟩; obtain ⟨m1, m2, k1, k2, s1, s2, y1, y2⟩ := HS.out _ _ hb2 hg2; clear HS hg2)
      by_cases hc : m1 < m2
      · have hfin := y1 hc
        have HF : Hid _ := hfin
        clear y1 y2 hfin
        go_wp2_with (first
          | (go_at_call_of 48 (Value.pointer (some ⟨g2, 0, none⟩)); refine s1.mono ?_; clear s1; rintro e w3 ⟨rfl, hq⟩; replace hq := hq.symm; subst hq)
          | (go_at_call_of 48 (Value.pointer (some ⟨gq, 0, none⟩)); refine s2.mono ?_; clear s2; rintro e w3 ⟨rfl, hq⟩; replace hq := hq.symm; subst hq))
        go_roundw
        case rel => exact ⟨t + 1, g2, by omega, by go_num, rfl, HF.out⟩
        case measure => simp [intOf]; omega
      · have hfin := y2 hc
        have HF : Hid _ := hfin
        clear y1 y2 hfin
        go_wp2_with (first
          | (go_at_call_of 48 (Value.pointer (some ⟨g2, 0, none⟩)); refine s1.mono ?_; clear s1; rintro e w3 ⟨rfl, hq⟩; replace hq := hq.symm; subst hq)
          | (go_at_call_of 48 (Value.pointer (some ⟨gq, 0, none⟩)); refine s2.mono ?_; clear s2; rintro e w3 ⟨rfl, hq⟩; replace hq := hq.symm; subst hq))
        go_roundw
        case rel => exact ⟨t + 1, gq, by omega, by go_num, rfl, HF.out⟩
        case measure => simp [intOf]; omega
    · have e : names.length - 1 = t := by omega
      have HF : Hid (GraphPost w names S L (bestTo S.order v Lt (names.length - 1)) (.returned (.pointer (some ⟨gq, 0, none⟩))) wr) := by
        have : GraphPost w names S L (bestTo S.order v Lt (names.length - 1)) (.returned (.pointer (some ⟨gq, 0, none⟩))) wr := by rw [e]; exact hgp
        exact this
      clear hgp HM HL
      go_wp2_with fail
      go_ret
      exact HF.out

end Go.Proofs.YtebfmcafmojlaaaGreatDoor

