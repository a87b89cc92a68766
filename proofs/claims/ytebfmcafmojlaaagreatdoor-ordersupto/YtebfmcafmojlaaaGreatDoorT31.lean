/-
  graph: level, branch, in the midst of a change of the order.
-/
import Derived.Test.YtebfmcafmojlaaaGreatDoorT27
import Derived.Test.YtebfmcafmojlaaaGreatDoorT30
namespace Go.Proofs.YtebfmcafmojlaaaGreatDoor
open Go.RowKit Go.Maps
set_option linter.unusedSimpArgs false
set_option linter.unusedVariables false

theorem Gr.Sm.lev_const {G : Gr} {ex : Nat → Nat → Prop} (k : G.Sm ex) {r : Nat} (h : r / 2 = 0) : G.lev r = G.order.length := by unfold Gr.lev; rw [h, k.zero]
theorem Gr.Sm.lev_ne {G : Gr} {ex : Nat → Nat → Prop} (k : G.Sm ex) {r : Nat} (h : G.ok r) (hl : G.lev r < G.order.length) : ∃ n, G.node (r / 2) = some n := by
  rcases h with h | h
  · rw [Gr.Sm.lev_const k h] at hl; omega
  · exact h
theorem Gr.br_self2 {G : Gr} {r l : Nat} (b : Bool) (hl : G.lev r ≠ l) : G.br r l b = r := by
  unfold Gr.br
  split
  · rename_i n hn
    rw [if_neg]
    rw [Gr.lev_node hn] at hl
    exact hl
  · rfl

set_option maxHeartbeats 1000000 in
set_option maxRecDepth 10000 in
theorem graphLevel2_w {O : Nat → Prop} {w : World} {gb : Nat} {S : GrS} {ex : Nat → Nat → Prop} (hG : GrIs O w gb S) (k : S.g.Sm ex) (r : Nat) (hr : S.g.ok r) :
    Calls Tryz.prog 98 #[.pointer (some ⟨gb, 0, none⟩), .int .i64 r] w fun e w' => e = .returned (.int .i64 (S.g.lev r : Nat)) ∧ w' = (if r / 2 = 0 then w else w.drew) := by
  obtain ⟨ov, nv, fv, mb, rb, M, R, h⟩ := hG
  obtain ⟨c0, c1, c2, c3, c4⟩ := h.c
  obtain ⟨ao, cap, eo, hro⟩ := order_reads h
  subst eo
  have hol := h.ol
  by_cases hz : r / 2 = 0
  · have hcon := refConstant_is r
    have hd : decide (r / 2 = 0) = true := by simp [hz]
    rw [hd] at hcon
    have hlev := Gr.Sm.lev_const k hz
    rw [hlev]
    have HL : Hid (S.g.order.length = S.order.length) := rfl
    simp only [hz, if_true]
    clear hr h k
    go_enter Tryz.func98, Tryz.ntmps98
    go_wp2_with (go_at_call 140; refine (hcon _).mono ?_; rintro e w1 ⟨rfl, hq⟩; replace hq := hq.symm; subst hq)
    go_ret
    exact ⟨retI (by rw [HL.out]), rfl⟩
  · obtain ⟨n, hn⟩ := Gr.ok_node hr hz
    have hcon := refConstant_is r
    have hd : decide (r / 2 = 0) = false := by simp [hz]
    rw [hd] at hcon
    obtain ⟨nb, ncap, en, hnb, hob, hnode⟩ := h.nodeAt
    subst en
    obtain ⟨hi, d0, d1, d2⟩ := hnode _ _ hn
    have hlev := Gr.lev_node hn
    rw [hlev]
    have hidx : idxI S.order n.v = (S.g.idx n.v : Nat) := idxI_mem (k.var hn)
    have hix := slicesIndex_is (.slice ao S.order.length cap) S.order n.v
    have hnum := refNumber_is r
    obtain ⟨q, hq⟩ : ∃ q, q = r / 2 := ⟨_, rfl⟩
    rw [← hq] at hi d0 hnum
    have HQ : Hid (q = r / 2) := hq
    simp only [hz, if_false]
    clear hr h k hnode hn hlev hd d1 d2 hq
    go_enter Tryz.func98, Tryz.ntmps98
    go_wp2_with (go_at_call 140; refine (hcon _).mono ?_; rintro e w1 ⟨rfl, hq⟩; replace hq := hq.symm; subst hq)
    go_region_held (fun w' => w'.cell? ⟨gb, 0, none⟩ = some (.slice ao S.order.length cap) ∧ w'.cell? ⟨gb, 1, none⟩ = some (.slice (some ⟨nb, 0, none⟩) S.nl.length ncap) ∧ w'.cell? ⟨nb, q * 3, none⟩ = some (.int .i64 (n.v : Nat))) (go_keep) (first | (go_at_call 149; refine (hnum _).mono ?_; rintro e w1 ⟨rfl, hq⟩; replace hq := hq.symm; subst hq) | (go_at_call 81; refine (hix _ (hro.below (Below.refl _ _).drew (Nat.le_refl _)) (by omega)).mono ?_; rintro e w1 ⟨rfl, hq⟩; replace hq := hq.symm; subst hq))
    all_goals
      go_wp2
      go_ret
      exact ⟨by first | rfl | exact retI hidx, rfl⟩

theorem graphLevel2_is {O : Nat → Prop} {w : World} {gb : Nat} {S : GrS} {ex : Nat → Nat → Prop} (hG : GrIs O w gb S) (k : S.g.Sm ex) (r : Nat) (hr : S.g.ok r) :
    Calls Tryz.prog 98 #[.pointer (some ⟨gb, 0, none⟩), .int .i64 r] w fun e w' => e = .returned (.int .i64 (S.g.lev r : Nat)) ∧ Below w.heap.size w w' := by
  refine (graphLevel2_w hG k r hr).mono ?_
  rintro e w' ⟨he, hw⟩
  refine ⟨he, ?_⟩
  rw [hw]
  split
  · exact Below.refl _ _
  · exact (Below.refl _ _).drew

set_option maxHeartbeats 1000000 in
set_option maxRecDepth 10000 in
theorem graphBranch2_is {O : Nat → Prop} {w : World} {gb : Nat} {S : GrS} {ex : Nat → Nat → Prop} (hG : GrIs O w gb S) (k : S.g.Sm ex) (r l : Nat) (b : Bool) (hr : S.g.ok r) (hl : l < S.g.order.length) :
    Calls Tryz.prog 100 #[.pointer (some ⟨gb, 0, none⟩), .int .i64 r, .int .i64 l, .bool b] w fun e w' => e = .returned (.int .i64 (S.g.br r l b : Nat)) ∧ Below w.heap.size w w' := by
  have hlv := graphLevel2_is hG k r hr
  by_cases he : S.g.lev r = l
  · obtain ⟨n, hn⟩ := Gr.Sm.lev_ne k hr (by omega)
    have hbr := Gr.br_node (l := l) b hn ((Gr.lev_node hn).symm.trans he)
    rw [hbr]
    rw [he] at hlv
    obtain ⟨ov, nv, fv, mb, rb, M, R, h⟩ := hG
    obtain ⟨c0, c1, c2, c3, c4⟩ := h.c
    obtain ⟨nb, ncap, en, hnb, hob, hnode⟩ := h.nodeAt
    subst en
    obtain ⟨hi, d0, d1, d2⟩ := hnode _ _ hn
    have hgb := h.lt gb h.self
    have hst := h.small hr
    have hsm : n.t < refMax ∧ n.e < refMax ∧ r < refMax := by
      have := h.small (k.tok hn); have := h.small (k.eok hn)
      unfold refMax; omega
    have ht := refTurnedLike_is n.t r hsm.1 hsm.2.2
    have hee := refTurnedLike_is n.e r hsm.2.1 hsm.2.2
    have hnum := refNumber_is r
    obtain ⟨q, hq⟩ : ∃ q, q = r / 2 := ⟨_, rfl⟩
    rw [← hq] at hi d0 d1 d2 hnum
    have HQ : Hid (q = r / 2) := hq
    obtain ⟨v, t, e⟩ := n
    simp only at d0 d1 d2 ht hee ⊢
    have hneq : ((l : Int) != (l : Int)) = false := by simp
    clear hr h k hnode hn hq hbr he hst hsm
    cases b
    · go_enter Tryz.func100, Tryz.ntmps100
      go_wp2_with (go_at_call 98; refine hlv.mono ?_; rintro e' w1 ⟨rfl, hb⟩; have f1 := (hb.cell (p := ⟨gb, 1, none⟩) hgb).trans c1; have g0 := (hb.cell (p := ⟨nb, q * 3, none⟩) hnb).trans d0; have g1 := (hb.cell (p := ⟨nb, q * 3 + 1, none⟩) hnb).trans d1; have g2 := (hb.cell (p := ⟨nb, q * 3 + 2, none⟩) hnb).trans d2)
      go_region_held (fun w' => w'.cell? ⟨gb, 1, none⟩ = some (.slice (some ⟨nb, 0, none⟩) S.nl.length ncap) ∧ w'.cell? ⟨nb, q * 3, none⟩ = some (.int .i64 (v : Nat)) ∧ w'.cell? ⟨nb, q * 3 + 1, none⟩ = some (.int .i64 (t : Nat)) ∧ w'.cell? ⟨nb, q * 3 + 2, none⟩ = some (.int .i64 (e : Nat))) (go_keep) (first | (go_at_call 149; refine (hnum _).mono ?_; rintro e' w1 ⟨rfl, hq⟩; replace hq := hq.symm; subst hq))
      all_goals
        go_wp2_with (go_at_call 134; refine (hee _).mono ?_; rintro e' w1 ⟨rfl, hq⟩; replace hq := hq.symm; subst hq)
        go_ret
        exact ⟨rfl, (hb.alloc hb.size _).drew⟩
    · go_enter Tryz.func100, Tryz.ntmps100
      go_wp2_with (go_at_call 98; refine hlv.mono ?_; rintro e' w1 ⟨rfl, hb⟩; have f1 := (hb.cell (p := ⟨gb, 1, none⟩) hgb).trans c1; have g0 := (hb.cell (p := ⟨nb, q * 3, none⟩) hnb).trans d0; have g1 := (hb.cell (p := ⟨nb, q * 3 + 1, none⟩) hnb).trans d1; have g2 := (hb.cell (p := ⟨nb, q * 3 + 2, none⟩) hnb).trans d2)
      go_region_held (fun w' => w'.cell? ⟨gb, 1, none⟩ = some (.slice (some ⟨nb, 0, none⟩) S.nl.length ncap) ∧ w'.cell? ⟨nb, q * 3, none⟩ = some (.int .i64 (v : Nat)) ∧ w'.cell? ⟨nb, q * 3 + 1, none⟩ = some (.int .i64 (t : Nat)) ∧ w'.cell? ⟨nb, q * 3 + 2, none⟩ = some (.int .i64 (e : Nat))) (go_keep) (first | (go_at_call 149; refine (hnum _).mono ?_; rintro e' w1 ⟨rfl, hq⟩; replace hq := hq.symm; subst hq))
      all_goals
        go_wp2_with (go_at_call 134; refine (ht _).mono ?_; rintro e' w1 ⟨rfl, hq⟩; replace hq := hq.symm; subst hq)
        go_ret
        exact ⟨rfl, (hb.alloc hb.size _).drew⟩
  · rw [Gr.br_self2 b he]
    have hneq := neq_nat (S.g.lev r) l
    have hb' : (S.g.lev r != l) = true := by simp [he]
    rw [hb'] at hneq
    clear hb' he
    go_enter Tryz.func100, Tryz.ntmps100
    go_wp2_with (go_at_call 98; refine hlv.mono ?_; rintro e' w1 ⟨rfl, hb⟩)
    go_ret
    exact ⟨rfl, hb⟩

end Go.Proofs.YtebfmcafmojlaaaGreatDoor

/-
  graph: turn: a node asks another variable, in memory.
-/
namespace Go.Proofs.YtebfmcafmojlaaaGreatDoor
open Go.RowKit Go.Maps
set_option linter.unusedSimpArgs false
set_option linter.unusedVariables false

theorem MapTurn.drewR {w w' : World} {b : Nat} (h : MapTurn w w' b) : MapTurn w w'.drew b := ⟨⟨h.1.os, h.1.tape, h.1.output, h.1.size, h.1.block⟩, h.2⟩

/-- S with another node under the number j; it tells the same. -/
def GrS.turned (S : GrS) (j : Nat) (m : Nd) : GrS := { S with nl := S.nl.set j (some m) }

theorem GrS.turned_g {S : GrS} {j : Nat} {m : Nd} (hj : j < S.nl.length) : (S.turned j m).g = S.g.set j m := by
  unfold GrS.turned GrS.g Gr.set
  simp only [Gr.mk.injEq, and_true, true_and]
  funext i
  rw [List.getD_eq_getElem?_getD, List.getD_eq_getElem?_getD, List.getElem?_set]
  by_cases e : j = i
  · subst e
    rw [if_pos rfl, if_pos hj, if_pos rfl]
    rfl
  · have : ¬ i = j := fun e' => e e'.symm
    rw [if_neg e, if_neg this]

theorem GrAt.turned {O : Nat → Prop} {w w1 w2 w3 : World} {gb : Nat} {S : GrS} {ov nv fv : Value} {mb rb : Nat} {M M1 M2 R : List (Value × Value)} (h : GrAt O w gb S ov nv fv mb rb M R) (hinj : ∀ {i j n}, S.g.node i = some n → S.g.node j = some n → i = j)
    {j nb ncap : Nat} {n m : Nd} (hn : S.g.node j = some n) (hm : ∀ i, i ≠ j → S.g.node i ≠ some m) (en : nv = .slice (some ⟨nb, 0, none⟩) S.nl.length ncap)
    (t1 : MapTurn w w1 mb) (q1 : ∀ p, p ∈ M1 ↔ p ∈ M ∧ p.1 ≠ ndKey n) (a2 : MapIs Tryz.prog 214 w2 mb M2) (t2 : MapTurn w1 w2 mb) (q2 : ∀ p, p ∈ M2 ↔ p = (ndKey m, natv j) ∨ (p ∈ M1 ∧ p.1 ≠ ndKey m))
    (e3 : w3 = ((w2.setCell ⟨nb, j * 3, none⟩ (.int .i64 (m.v : Int))).setCell ⟨nb, j * 3 + 1, none⟩ (.int .i64 (m.t : Int))).setCell ⟨nb, j * 3 + 2, none⟩ (.int .i64 (m.e : Int))) :
    Only O w w3 ∧ GrAt O w3 gb (S.turned j m) ov nv fv mb rb M2 R := by
  obtain ⟨nb', ncap', ncur, en', hnb, hob, hngb, hncap, hncm, hncs, hntk⟩ := h.nodesBlock
  rw [en] at en'
  simp only [Value.slice.injEq, Option.some.injEq, Addr.mk.injEq, and_true, true_and] at en'
  obtain ⟨rfl, rfl⟩ := en'
  have hj := GrS.node_lt hn
  have hmaps := h.maps_ne
  have hgl := h.lt gb h.self
  have hnbl : nb < w.heap.size := (Array.getElem?_eq_some_iff.1 hnb).1
  have s1 := t1.2
  have s2 := t2.2
  have b12 : ∀ b, b < w.heap.size → b ≠ mb → w2.heap[b]? = w.heap[b]? := fun b hb hne => (t2.1.block b (by omega) (by simp; exact hne)).trans (t1.1.block b hb (by simp; exact hne))
  have s3 : w3.heap.size = w2.heap.size := by rw [e3]; simp [World.setCell]
  have b3 : ∀ b, b ≠ nb → w3.heap[b]? = w2.heap[b]? := by
    intro b hb
    rw [e3, Below.heap_setCell _ _ _ _ hb, Below.heap_setCell _ _ _ _ hb, Below.heap_setCell _ _ _ _ hb]
  have hmg : mb ≠ gb := (hmaps gb _ _ _ h.cells).1.symm
  have hmn : mb ≠ nb := (hmaps nb _ _ _ hnb).1.symm
  have hrn : rb ≠ nb := (hmaps nb _ _ _ hnb).2.symm
  have hrlt := h.lt rb h.orr
  have hon : Only O w w3 := by
    have o1 : Only O w w1 := t1.only h.om
    have o2 : Only O w w2 := o1.trans (t2.only h.om) (Grows.refl _ _)
    rw [e3]
    exact ((o2.setCell (p := ⟨nb, j * 3, none⟩) (.inl hob) _).setCell (p := ⟨nb, j * 3 + 1, none⟩) (.inl hob) _).setCell (p := ⟨nb, j * 3 + 2, none⟩) (.inl hob) _
  have hrow : ∀ {v : Value} {xs : List Value}, Row O w 3 v xs → Row O w3 3 v xs := by
    intro v xs hr
    refine hr.same ?_
    intro b hb
    obtain ⟨cur, hc⟩ := hr.block hb
    have hbl := (Array.getElem?_eq_some_iff.1 hc).1
    rw [b3 b (by intro e; subst e; rw [hc] at hnb; simp at hnb), b12 b hbl (hmaps b _ _ _ hc).1]
  have hg := GrS.turned_g (S := S) (m := m) hj
  have hok : ∀ r, (S.turned j m).g.ok r ↔ S.g.ok r := by intro r; rw [hg]; exact Gr.set_ok hn r
  have htab : ∀ r, (S.turned j m).g.tab r = S.g.tab r := by intro r; rw [hg]; rfl
  have hnode : ∀ i, (S.turned j m).g.node i = if i = j then some m else S.g.node i := by intro i; rw [hg]; rfl
  refine ⟨hon, { lt := fun b hb => Nat.lt_of_lt_of_le (h.lt b hb) hon.size, eov := h.eov, self := h.self, om := h.om, orr := h.orr, cells := ?_, order := hrow h.order, nodes := ?_, nin := h.nin, free := hrow h.free, nums := ?_, res := ?_, mok := ?_, rok := ?_, rlen := h.rlen, mr := h.mr, of := h.of, n1 := ?_, nlen := ?_, ol := h.ol, fdup := h.fdup, fok := ?_ }⟩
  · rw [b3 gb hngb.symm, b12 gb hgl hmg.symm]; exact h.cells
  · show w3.ownsRow 0 214 3 nv (S.nl.set j (some m)).length ((S.nl.set j (some m)).flatMap ndCells)
    rw [List.length_set, en]
    have hnc : w3.heap[nb]? = some (.cells (((ncur.setIfInBounds (j * 3) (.int .i64 (m.v : Int))).setIfInBounds (j * 3 + 1) (.int .i64 (m.t : Int))).setIfInBounds (j * 3 + 2) (.int .i64 (m.e : Int))) 214 (0, 0)) := by
      rw [e3]
      exact heap_setCell_at (heap_setCell_at (heap_setCell_at ((b12 nb hnbl hmn.symm).trans hnb)))
    refine ⟨by rw [flat3_len, List.length_set], .inr ⟨nb, ncap, _, rfl, Nat.zero_le _, hnc, hncap, hncm, by simpa using hncs, ?_⟩⟩
    rw [← flat3_set _ _ hj, ← hntk]
    simp only [Array.toList_setIfInBounds]
    rw [List.take_set, List.take_set, List.take_set]
  · exact a2.same (b3 mb hmn)
  · refine h.res.same ?_
    rw [b3 rb hrn, b12 rb hrlt h.mr.symm]
  · intro p
    rw [q2]
    constructor
    · rintro (rfl | ⟨hp, hk⟩)
      · exact ⟨j, m, by rw [hnode, if_pos rfl], rfl⟩
      · obtain ⟨hp, hk2⟩ := (q1 p).1 hp
        obtain ⟨i, n', hn', rfl⟩ := (h.mok p).1 hp
        have hij : i ≠ j := by
          intro e
          subst e
          rw [hn] at hn'
          cases hn'
          exact hk2 rfl
        exact ⟨i, n', by rw [hnode, if_neg hij]; exact hn', rfl⟩
    · rintro ⟨i, n', hn', rfl⟩
      rw [hnode] at hn'
      by_cases e : i = j
      · rw [if_pos e] at hn'
        cases hn'
        rw [e]
        exact .inl rfl
      · rw [if_neg e] at hn'
        refine .inr ⟨(q1 _).2 ⟨(h.mok _).2 ⟨i, n', hn', rfl⟩, ?_⟩, ?_⟩
        · intro ek
          have := ndKey_inj ek
          subst this
          exact e (hinj hn' hn)
        · intro ek
          have := ndKey_inj ek
          subst this
          exact hm i e hn'
  · intro p hp
    obtain ⟨f, g, q, r, e, o1, o2, o3, o4, ht⟩ := h.rok p hp
    exact ⟨f, g, q, r, e, (hok f).2 o1, (hok g).2 o2, (hok q).2 o3, (hok r).2 o4, by rw [htab, htab, htab, htab]; exact ht⟩
  · show 1 ≤ (S.nl.set j (some m)).length
    rw [List.length_set]; exact h.n1
  · show (S.nl.set j (some m)).length ≤ 100000
    rw [List.length_set]; exact h.nlen
  · intro i hi
    obtain ⟨c1, c2, c3⟩ := h.fok i hi
    have hij : i ≠ j := by intro e; subst e; rw [hn] at c3; cases c3
    refine ⟨c1, ?_, by rw [hnode, if_neg hij]; exact c3⟩
    show i < (S.nl.set j (some m)).length
    rw [List.length_set]; exact c2

end Go.Proofs.YtebfmcafmojlaaaGreatDoor

/-
  graph: turn: its closure.
-/
namespace Go.Proofs.YtebfmcafmojlaaaGreatDoor
open Go.RowKit Go.Maps
set_option linter.unusedSimpArgs false
set_option linter.unusedVariables false

/-- Where no number is free all but the first bear a node. -/
theorem GrS.Full.len {S : GrS} (h : S.Full) (h0 : S.free = []) : S.nl.length ≤ S.nums.length + 1 := by
  have h1 : (List.range S.nl.length).length ≤ (0 :: S.nums).length := by
    refine List.Nodup.length_le_of_subset List.nodup_range ?_
    intro i hi
    rw [List.mem_range] at hi
    by_cases i0 : i = 0
    · subst i0; simp
    · refine List.mem_cons_of_mem _ (GrS.mem_nums.2 ?_)
      cases c : S.g.node i with
      | some n => exact ⟨n, c⟩
      | none =>
        have := h i (by omega) hi c
        rw [h0] at this
        simp at this
  simpa using h1

theorem GrS.Added.cnt {S S' : GrS} {n : Nd} {i : Nat} (h : S.Added n i S') : S'.nums.length ≤ S.nums.length + 1 := by
  have h1 : S'.nums.length ≤ (i :: S.nums).length := by
    refine List.Nodup.length_le_of_subset (nums_nodup S') ?_
    intro j hj
    obtain ⟨m, hm⟩ := GrS.mem_nums.1 hj
    by_cases e : j = i
    · subst e; exact List.mem_cons_self ..
    · refine List.mem_cons_of_mem _ (GrS.mem_nums.2 ⟨m, ?_⟩)
      rw [h.g] at hm
      simpa [Gr.add, e] using hm
  simpa using h1

/-- A part that was made. -/
structure GrS.Part (S S' : GrS) (x y r : Nat) (F : Tab) : Prop where
  ext : S.g.Ext S'.g
  sm : S'.g.Sm (exy x y)
  ok : S'.g.ok r
  tab : S'.g.tab r = F
  cnt : S'.nums.length ≤ S.nums.length + 1
  nl : S'.nl.length = S.nl.length ∨ S'.nl.length ≤ S'.nums.length + 1
  full : S'.Full
  ov : S'.ov = S.ov
  new : ∀ i n, S'.g.node i = some n → S.g.node i = some n ∨ hangs (S'.g.sem i) y = false
  le : S.nl.length ≤ S'.nl.length

theorem part_of_join {S S' : GrS} {l x y t e r : Nat} (k : S.g.Sm (exy x y)) (two : S.g.Two l x y) (hF : S.Full) (ht : S.g.ok t) (he : S.g.ok e) (ft : ∀ u ∈ S.g.order, S.g.idx u ≤ l + 1 → hangs (S.g.tab t) u = false) (fe : ∀ u ∈ S.g.order, S.g.idx u ≤ l + 1 → hangs (S.g.tab e) u = false) (hj : JoinPost S x t e r S') :
    S.Part S' x y r (iteT (mask x) (S.g.tab t) (S.g.tab e)) := by
  rcases hj with ⟨hte, rfl, rfl⟩ | ⟨hte, i, hi, rfl, rfl⟩ | ⟨hte, hnew, i, rfl, ha⟩
  · subst hte
    exact ⟨Gr.Ext.refl _, k, ht, (iteT_same _ _).symm, by omega, .inl rfl, hF, rfl, fun i n h => .inl h, Nat.le_refl _⟩
  · obtain ⟨h1, h2⟩ := k.join_found hi
    exact ⟨Gr.Ext.refl _, k, h1, h2, by omega, .inl rfl, hF, rfl, fun i n h => .inl h, Nat.le_refl _⟩
  · obtain ⟨h1, h2, h3⟩ := k.join_new two ht he hte ft fe ha.i0 ha.none hnew
    have hF' := ha.compl hF
    rw [← ha.g] at h1 h2 h3
    refine ⟨by rw [ha.g]; exact S.g.add_ext ha.i0 ha.none, h1, h2, h3, ha.cnt, ?_, hF', ha.ov, ?_, ha.le⟩
    · rcases ha.full with e1 | e1
      · exact .inr (hF'.len e1)
      · exact .inl e1
    · intro a m hm
      rw [ha.g] at hm ⊢
      by_cases e1 : a = i
      · right
        have hy6 := k.lt6 y two.hy
        have q1 : hangs (S.g.tab (joinN x t e).t) y = false := (hangs_half (show (joinN x t e).t / 2 = t / 2 by show (t - t % 2) / 2 = t / 2; omega) hy6).trans (ft y two.hy (by rw [two.iy]; exact Nat.le_refl _))
        have q2 : hangs (S.g.tab (joinN x t e).e) y = false := (hangs_half (show (joinN x t e).e / 2 = e / 2 by show tl e t / 2 = e / 2; exact tl_half _ _) hy6).trans (fe y two.hy (by rw [two.iy]; exact Nat.le_refl _))
        have q3 : (S.g.add i (joinN x t e)).sem a = iteT (mask x) (S.g.tab (joinN x t e).t) (S.g.tab (joinN x t e).e) := by rw [e1]; simp [Gr.add]; rfl
        rw [q3]
        exact hangs_iteT _ _ _ _ (k.lt6 x two.hx) hy6 (fun e => two.ne e.symm) q1 q2
      · left
        simpa [Gr.add, e1] using hm

structure TurnBox (O : Nat → Prop) (w : World) (b3 b6 b5 gb l : Nat) (n : Nd) : Prop where
  n3 : ¬ O b3
  n6 : ¬ O b6
  n5 : ¬ O b5
  l3 : b3 < w.heap.size
  l6 : b6 < w.heap.size
  l5 : b5 < w.heap.size
  c3 : w.cell? ⟨b3, 0, none⟩ = some (.pointer (some ⟨gb, 0, none⟩))
  o0 : w.cell? ⟨b6, 0, none⟩ = some (.int .i64 (n.v : Int))
  o1 : w.cell? ⟨b6, 1, none⟩ = some (.int .i64 (n.t : Int))
  o2 : w.cell? ⟨b6, 2, none⟩ = some (.int .i64 (n.e : Int))
  c5 : w.cell? ⟨b5, 0, none⟩ = some (.int .i64 (l : Int))

theorem TurnBox.step {O O1 : Nat → Prop} {w w1 : World} {b3 b6 b5 gb l : Nat} {n : Nd} (B : TurnBox O w b3 b6 b5 gb l n) (ho : Only O w w1) (hg : Grows w O O1) : TurnBox O1 w1 b3 b6 b5 gb l n := by
  have q : ∀ b, ¬ O b → b < w.heap.size → ¬ O1 b := fun b h1 h2 h3 => (hg b h3).elim h1 (fun e => by omega)
  exact ⟨q _ B.n3 B.l3, q _ B.n6 B.l6, q _ B.n5 B.l5, Nat.lt_of_lt_of_le B.l3 ho.size, Nat.lt_of_lt_of_le B.l6 ho.size, Nat.lt_of_lt_of_le B.l5 ho.size, (ho.cell (p := ⟨b3, 0, none⟩) B.n3 B.l3).trans B.c3, (ho.cell (p := ⟨b6, 0, none⟩) B.n6 B.l6).trans B.o0, (ho.cell (p := ⟨b6, 1, none⟩) B.n6 B.l6).trans B.o1, (ho.cell (p := ⟨b6, 2, none⟩) B.n6 B.l6).trans B.o2, (ho.cell (p := ⟨b5, 0, none⟩) B.n5 B.l5).trans B.c5⟩

def PartPost (O : Nat → Prop) (w : World) (gb : Nat) (S : GrS) (x y : Nat) (F : Tab) (e : Ending) (w' : World) : Prop := ∃ r S', e = .returned (.int .i64 (r : Nat)) ∧ GrStep O w gb w' S' ∧ S.Part S' x y r F

theorem wrap_six (n : Int) (h : 0 ≤ n ∧ n ≤ 1000) : IntKind.i64.wrap n = n := by rw [IntKind.wrap_i64]; omega
theorem succ_cast (l : Nat) : ((l + 1 : Nat) : Int) = (l : Int) + 1 := by omega

set_option maxHeartbeats 1000000 in
set_option maxRecDepth 10000 in
theorem graphTurnBody_is {O : Nat → Prop} {w : World} {gb : Nat} {S : GrS} {l x y : Nat} (hG : GrIs O w gb S) (k : S.g.Sm (exy x y)) (two : S.g.Two l x y) (hF : S.Full) {i : Nat} {n : Nd} (hn : S.g.node i = some n) (hx : n.v = x) (b : Bool) (hnl : S.nl.length + 1 ≤ 100000) {b3 b6 b5 : Nat} (B : TurnBox O w b3 b6 b5 gb l n) :
    Calls Tryz.prog 181 #[.bool b, .pointer (some ⟨b3, 0, none⟩), .pointer (some ⟨b6, 0, none⟩), .pointer (some ⟨b5, 0, none⟩)] w (PartPost O w gb S x y (given (S.g.sem i) y b)) := by
  have hy6 := k.lt6 y two.hy
  have hx6 := k.lt6 x two.hx
  have hlt : l + 1 < S.g.order.length := by rw [← two.iy]; exact List.idxOf_lt_length_of_mem two.hy
  have hol : S.g.order.length ≤ 6 := hG.ol
  have hkt := k.kid_free two hn hx (c := n.t) (.inl rfl)
  have hke := k.kid_free two hn hx (c := n.e) (.inr rfl)
  have hpt := k.part two hkt.1 hkt.2 b
  have hpe := k.part two hke.1 hke.2 b
  have hbt : ∀ wq, Below w.heap.size w wq → Calls Tryz.prog 100 #[.pointer (some ⟨gb, 0, none⟩), .int .i64 (n.t : Int), .int .i64 ((l : Int) + 1), .bool b] wq fun e w' => e = .returned (.int .i64 (S.g.br n.t (l + 1) b : Nat)) ∧ Below wq.heap.size wq w' := by
    intro wq hb
    have := graphBranch2_is (hG.below hb) k n.t (l + 1) b hkt.1 hlt
    rw [succ_cast] at this
    exact this
  have hbe : ∀ wq, Below w.heap.size w wq → Calls Tryz.prog 100 #[.pointer (some ⟨gb, 0, none⟩), .int .i64 (n.e : Int), .int .i64 ((l : Int) + 1), .bool b] wq fun e w' => e = .returned (.int .i64 (S.g.br n.e (l + 1) b : Nat)) ∧ Below wq.heap.size wq w' := by
    intro wq hb
    have := graphBranch2_is (hG.below hb) k n.e (l + 1) b hke.1 hlt
    rw [succ_cast] at this
    exact this
  have hjoin : ∀ wq, Below w.heap.size w wq → Calls Tryz.prog 97 #[.pointer (some ⟨gb, 0, none⟩), .int .i64 (n.v : Int), .int .i64 (S.g.br n.t (l + 1) b : Nat), .int .i64 (S.g.br n.e (l + 1) b : Nat)] wq (fun e w' => ∃ r : Nat, e = .returned (.int .i64 (r : Int)) ∧ PartPost O w gb S x y (given (S.g.sem i) y b) e w' ∧ Only O w w') := by
    intro wq hb
    refine (graphJoin_is (hG.below hb) n.v (S.g.br n.t (l + 1) b) (S.g.br n.e (l + 1) b) (by rw [hx]; omega) (hG.bound hpt.1) (hG.bound hpe.1) hnl).mono ?_
    rintro e w' ⟨r, S', he, hs, hj⟩
    rw [hx] at hj
    have hp := part_of_join k two hF hpt.1 hpe.1 hpt.2.2 hpe.2.2 hj
    have hFq : iteT (mask x) (S.g.tab (S.g.br n.t (l + 1) b)) (S.g.tab (S.g.br n.e (l + 1) b)) = given (S.g.sem i) y b := by
      rw [hpt.2.1, hpe.2.1, k.is hn, hx, given_iteT _ _ _ _ _ hy6, given_mask_ne _ _ _ hx6 hy6 (fun e => two.ne e.symm)]
    rw [hFq] at hp
    have hs' := hs.pre hb
    exact ⟨r, he, ⟨r, S', he, hs', hp⟩, hs'.1⟩
  generalize S.g.br n.t (l + 1) b = t' at hbt hjoin
  generalize S.g.br n.e (l + 1) b = e' at hbe hjoin
  obtain ⟨n3, n6, n5, l3, l6, l5, c3, o0, o1, o2, c5⟩ := B
  have hbel := (Below.refl w.heap.size w).drew
  generalize (PartPost O w gb S x y (given (S.g.sem i) y b)) = Post at hjoin ⊢
  have hl6 : l < 6 := by omega
  have hwr : IntKind.i64.wrap ((l : Int) + 1) = (l : Int) + 1 := wrap_six _ (by omega)
  obtain ⟨nv, nt, ne⟩ := n
  dsimp only at *
  clear hG k two hF hn hx hnl hy6 hx6 hlt hol hkt hke hpt hpe
  go_enter Tryz.func181, Tryz.ntmps181
  go_wp2_with fail
  go_region_held (fun w' => w'.cell? ⟨b3, 0, none⟩ = some (.pointer (some ⟨gb, 0, none⟩)) ∧ w'.cell? ⟨b6, 0, none⟩ = some (.int .i64 (nv : Int)) ∧ w'.cell? ⟨b6, 1, none⟩ = some (.int .i64 (nt : Int)) ∧ w'.cell? ⟨b6, 2, none⟩ = some (.int .i64 (ne : Int)) ∧ w'.cell? ⟨b5, 0, none⟩ = some (.int .i64 (l : Int))) (go_keep) (first
    | (go_at_call 100; refine (hbt _ hbel).mono ?_; clear hbt; rintro e wf ⟨rfl, hb1⟩; replace hbel := hbel.trans (hb1.mono hbel.size); clear hb1; have x3f := (hbel.cell (p := ⟨b3, 0, none⟩) l3).trans c3; have x0f := (hbel.cell (p := ⟨b6, 0, none⟩) l6).trans o0; have x1f := (hbel.cell (p := ⟨b6, 1, none⟩) l6).trans o1; have x2f := (hbel.cell (p := ⟨b6, 2, none⟩) l6).trans o2; have x5f := (hbel.cell (p := ⟨b5, 0, none⟩) l5).trans c5)
    | (go_at_call 100; refine (hbe _ hbel).mono ?_; clear hbe; rintro e wg ⟨rfl, hb1⟩; replace hbel := hbel.trans (hb1.mono hbel.size); clear hb1; have x3g := (hbel.cell (p := ⟨b3, 0, none⟩) l3).trans c3; have x0g := (hbel.cell (p := ⟨b6, 0, none⟩) l6).trans o0; have x1g := (hbel.cell (p := ⟨b6, 1, none⟩) l6).trans o1; have x2g := (hbel.cell (p := ⟨b6, 2, none⟩) l6).trans o2; have x5g := (hbel.cell (p := ⟨b5, 0, none⟩) l5).trans c5)
    | (go_at_call 97; refine (hjoin _ hbel).mono ?_; clear hjoin; rintro e w4 ⟨r, rfl, hp, ho⟩; have x3 := (ho.cell (p := ⟨b3, 0, none⟩) n3 l3).trans c3; have x0 := (ho.cell (p := ⟨b6, 0, none⟩) n6 l6).trans o0; have x1 := (ho.cell (p := ⟨b6, 1, none⟩) n6 l6).trans o1; have x2 := (ho.cell (p := ⟨b6, 2, none⟩) n6 l6).trans o2; have x5 := (ho.cell (p := ⟨b5, 0, none⟩) n5 l5).trans c5))
  all_goals
    go_wp2
    exact hp

end Go.Proofs.YtebfmcafmojlaaaGreatDoor

/-
  graph: turn.
-/
namespace Go.Proofs.YtebfmcafmojlaaaGreatDoor
open Go.RowKit Go.Maps
set_option linter.unusedSimpArgs false
set_option linter.unusedVariables false

/-- The boxes of turn: the graph, the level, the old node. -/
def turnW (w : World) (gb l : Nat) (n : Nd) : World := ((w.alloc (.cells #[.pointer (some ⟨gb, 0, none⟩)] 74)).alloc (.cells #[.int .i64 (l : Int)] 3)).alloc (.cells #[.int .i64 (n.v : Int), .int .i64 (n.t : Int), .int .i64 (n.e : Int)] 214)

theorem turnW_below (w : World) (gb l : Nat) (n : Nd) : Below w.heap.size w (turnW w gb l n) := by
  unfold turnW
  exact (((Below.refl _ w).alloc (Nat.le_refl _) _).alloc (by simp) _).alloc (by simp <;> omega) _
theorem turnW_size (w : World) (gb l : Nat) (n : Nd) : (turnW w gb l n).heap.size = w.heap.size + 3 := by unfold turnW; simp
theorem turnW_cells (w : World) (gb l : Nat) (n : Nd) :
    (turnW w gb l n).heap[w.heap.size]? = some (.cells #[.pointer (some ⟨gb, 0, none⟩)] 74 (0, 0)) ∧ (turnW w gb l n).heap[w.heap.size + 1]? = some (.cells #[.int .i64 (l : Int)] 3 (0, 0)) ∧ (turnW w gb l n).heap[w.heap.size + 1 + 1]? = some (.cells #[.int .i64 (n.v : Int), .int .i64 (n.t : Int), .int .i64 (n.e : Int)] 214 (0, 0)) := by
  unfold turnW
  refine ⟨?_, ?_, ?_⟩
  · rw [heap_alloc_old _ _ (by simp <;> omega), heap_alloc_old _ _ (by simp)]
    exact heap_alloc_new w _
  · rw [heap_alloc_old _ _ (by simp)]
    have := heap_alloc_new (w.alloc (.cells #[.pointer (some ⟨gb, 0, none⟩)] 74)) (.cells #[.int .i64 (l : Int)] 3)
    simpa using this
  · have := heap_alloc_new ((w.alloc (.cells #[.pointer (some ⟨gb, 0, none⟩)] 74)).alloc (.cells #[.int .i64 (l : Int)] 3)) (.cells #[.int .i64 (n.v : Int), .int .i64 (n.t : Int), .int .i64 (n.e : Int)] 214)
    simpa using this

/-- In the midst of turn: the graph, the boxes. -/
structure TurnSt (O : Nat → Prop) (w : World) (gb : Nat) (S : GrS) (l x y j : Nat) (n : Nd) (b3 b6 b5 : Nat) (ov : Value) : Prop where
  G : GrIs O w gb S
  k : S.g.Sm (exy x y)
  two : S.g.Two l x y
  full : S.Full
  hn : S.g.node j = some n
  hx : n.v = x
  B : TurnBox O w b3 b6 b5 gb l n
  hov : S.ov = ov

theorem TurnSt.next {O O1 : Nat → Prop} {w w1 : World} {gb : Nat} {S S1 : GrS} {l x y j : Nat} {n : Nd} {b3 b6 b5 : Nat} {ov : Value} (st : TurnSt O w gb S l x y j n b3 b6 b5 ov) (ho : Only O w w1) (hg : Grows w O O1) (hG : GrIs O1 w1 gb S1) {r : Nat} {F : Tab} (hp : S.Part S1 x y r F) : TurnSt O1 w1 gb S1 l x y j n b3 b6 b5 ov :=
  ⟨hG, hp.sm, st.two.ext hp.ext.order, hp.full, hp.ext.node st.hn, st.hx, st.B.step ho hg, hp.ov.trans st.hov⟩

theorem TurnSt.below {O : Nat → Prop} {w w1 : World} {gb : Nat} {S : GrS} {l x y j : Nat} {n : Nd} {b3 b6 b5 : Nat} {ov : Value} (st : TurnSt O w gb S l x y j n b3 b6 b5 ov) (hb : Below w.heap.size w w1) : TurnSt O w1 gb S l x y j n b3 b6 b5 ov :=
  { st with G := st.G.below hb, B := st.B.step (only_of_below hb O) (Grows.refl _ _) }

/-- What the region reads. -/
theorem TurnSt.reads {O : Nat → Prop} {w : World} {gb : Nat} {S : GrS} {l x y j : Nat} {n : Nd} {b3 b6 b5 : Nat} {ov : Value} (st : TurnSt O w gb S l x y j n b3 b6 b5 ov) :
    ∃ ob cap, ov = .slice (some ⟨ob, 0, none⟩) S.order.length cap ∧ l + 1 < S.order.length ∧ w.cell? ⟨gb, 0, none⟩ = some ov ∧ w.cell? ⟨ob, l + 1, none⟩ = some (.int .i64 (y : Int)) := by
  obtain ⟨ov', nv, fv, mb, rb, M, R, hA⟩ := st.G
  have e1 : ov' = ov := hA.eov.symm.trans st.hov
  subst e1
  have hm : S.order.idxOf y < S.order.length := List.idxOf_lt_length_of_mem st.two.hy
  have h2 : S.order.idxOf y = l + 1 := st.two.iy
  have hlt : l + 1 < S.order.length := by omega
  have hr := hA.order.1
  rw [List.length_map] at hr
  rcases hr.2 with ⟨rfl, h0⟩ | ⟨ob, cap, cur, e, _, hg, _⟩
  · omega
  · refine ⟨ob, cap, e, hlt, hA.c.1, ?_⟩
    have hget : S.order[l + 1]? = some y := by
      rw [← h2]
      exact List.getElem?_eq_some_iff.2 ⟨hm, List.getElem_idxOf hm⟩
    have := hr.cells (g := ob) (by rw [e]; rfl) (l + 1) (natv y) (by rw [List.getElem?_map, hget]; rfl)
    rw [Addr.add_lit, Nat.zero_add] at this
    exact this

theorem TurnSt.held {O : Nat → Prop} {w : World} {gb : Nat} {S : GrS} {l x y j : Nat} {n : Nd} {b3 b6 b5 ob N cap : Nat} (st : TurnSt O w gb S l x y j n b3 b6 b5 (.slice (some ⟨ob, 0, none⟩) N cap)) :
    w.cell? ⟨b3, 0, none⟩ = some (.pointer (some ⟨gb, 0, none⟩)) ∧ w.cell? ⟨gb, 0, none⟩ = some (.slice (some ⟨ob, 0, none⟩) N cap) ∧ w.cell? ⟨b5, 0, none⟩ = some (.int .i64 (l : Int)) ∧ w.cell? ⟨ob, l + 1, none⟩ = some (.int .i64 (y : Int)) := by
  obtain ⟨ob', cap', e, _, h1, h2⟩ := st.reads
  simp only [Value.slice.injEq, Option.some.injEq, Addr.mk.injEq, and_true] at e
  obtain ⟨rfl, _, _⟩ := e
  exact ⟨st.B.c3, h1, st.B.c5, h2⟩

theorem TurnSt.body {O : Nat → Prop} {w : World} {gb : Nat} {S : GrS} {l x y j : Nat} {n : Nd} {b3 b6 b5 : Nat} {ov : Value} (st : TurnSt O w gb S l x y j n b3 b6 b5 ov) (hnl : S.nl.length + 1 ≤ 100000) (b : Bool) :
    Calls Tryz.prog 181 #[.bool b, .pointer (some ⟨b3, 0, none⟩), .pointer (some ⟨b6, 0, none⟩), .pointer (some ⟨b5, 0, none⟩)] w (PartPost O w gb S x y (given (S.g.sem j) y b)) :=
  graphTurnBody_is st.G st.k st.two st.full st.hn st.hx b hnl st.B

/-- Behind the two parts: the state, the new node. -/
structure TurnMid (O : Nat → Prop) (w w3 : World) (gb : Nat) (S S2 : GrS) (l x y j : Nat) (n : Nd) (b3 b6 b5 b8 p q : Nat) (O2 : Nat → Prop) : Prop where
  only : Only O w w3
  grows : Grows w O O2
  G : GrIs O2 w3 gb S2
  k : S2.g.Sm (exy x y)
  two : S2.g.Two l x y
  full : S2.Full
  hn : S2.g.node j = some n
  hx : n.v = x
  ext : S.g.Ext S2.g
  cnt : S2.nums.length ≤ S.nums.length + 2
  nl : S2.nl.length = S.nl.length ∨ S2.nl.length ≤ S2.nums.length + 1
  ov : S2.ov = S.ov
  ok1 : S2.g.ok p
  ok2 : S2.g.ok q
  t1 : S2.g.tab p = given (S2.g.sem j) y true
  t2 : S2.g.tab q = given (S2.g.sem j) y false
  c3 : w3.cell? ⟨b3, 0, none⟩ = some (.pointer (some ⟨gb, 0, none⟩))
  o0 : w3.cell? ⟨b6, 0, none⟩ = some (.int .i64 (n.v : Int))
  o1 : w3.cell? ⟨b6, 1, none⟩ = some (.int .i64 (n.t : Int))
  o2 : w3.cell? ⟨b6, 2, none⟩ = some (.int .i64 (n.e : Int))
  u0 : w3.cell? ⟨b8, 0, none⟩ = some (.int .i64 (y : Int))
  u1 : w3.cell? ⟨b8, 1, none⟩ = some (.int .i64 (p : Int))
  u2 : w3.cell? ⟨b8, 2, none⟩ = some (.int .i64 (q : Int))
  n3 : ¬ O2 b3
  n6 : ¬ O2 b6
  n8 : ¬ O2 b8
  l3 : b3 < w3.heap.size
  l6 : b6 < w3.heap.size
  l8 : b8 < w3.heap.size
  new : ∀ i m, S2.g.node i = some m → S.g.node i = some m ∨ hangs (S2.g.sem i) y = false
  le : S.nl.length ≤ S2.nl.length

theorem box3 {w : World} {b : Nat} {a0 a1 a2 : Value} {t : TypeId} {fr : Nat × Nat} (h : w.heap[b]? = some (.cells #[a0, a1, a2] t fr)) : w.cell? ⟨b, 0, none⟩ = some a0 ∧ w.cell? ⟨b, 1, none⟩ = some a1 ∧ w.cell? ⟨b, 2, none⟩ = some a2 := by
  refine ⟨?_, ?_, ?_⟩ <;> (rw [cell_of_heap h]; rfl)

theorem own_lt2 {w : World} {g : Nat} {o : Obj} (h : w.heap[g]? = some o) : g < w.heap.size := (Array.getElem?_eq_some_iff.1 h).1

/-- From the worlds: w0 ahead, w at part(true), w1 behind it, w1' at part(false), w2 behind it; the box of the new node is laid somewhen (its block b8 is none of the graph's). -/
theorem turn_mid {O O1 O2 : Nat → Prop} {w0 w w1 w1' w2 w3 : World} {gb : Nat} {S S1 S2 : GrS} {l x y j : Nat} {n : Nd} {b3 b6 b5 b8 p q : Nat} {ov : Value} {tn : TypeId} (hb0 : Below w0.heap.size w0 w) (st : TurnSt O w gb S l x y j n b3 b6 b5 ov)
    (ho1 : Only O w w1) (hg1 : Grows w O O1) (hG1 : GrIs O1 w1 gb S1) (hp1 : S.Part S1 x y p (given (S.g.sem j) y true)) (hb1 : Below w1.heap.size w1 w1') (ho2 : Only O1 w1' w2) (hg2 : Grows w1' O1 O2) (hG2 : GrIs O2 w2 gb S2) (hp2 : S1.Part S2 x y q (given (S1.g.sem j) y false))
    (ho3 : Only (fun b => b = b8) w2 w3) (h8 : w3.heap[b8]? = some (.cells #[.int .i64 (y : Int), .int .i64 (p : Int), .int .i64 (q : Int)] tn (0, 0))) (n8 : ¬ O2 b8) (n83 : b3 ≠ b8) (n86 : b6 ≠ b8) (h80 : w0.heap.size ≤ b8) : TurnMid O w0 w3 gb S S2 l x y j n b3 b6 b5 b8 p q O2 := by
  have st1 := (st.next ho1 hg1 hG1 hp1).below hb1
  have st2 := st1.next ho2 hg2 hG2 hp2
  have hs1 : S1.g.sem j = S.g.sem j := hp1.ext.sem (.inr ⟨n, st.hn⟩)
  have hs2 : S2.g.sem j = S1.g.sem j := hp2.ext.sem (.inr ⟨n, st1.hn⟩)
  have hk : ∀ b, b ≠ b8 → b < w2.heap.size → w3.heap[b]? = w2.heap[b]? := fun b hb hl => ho3.block b hl hb
  have hG3 : GrIs O2 w3 gb S2 := hG2.keep ho3.size (fun b hb => hk b (fun e => n8 (e ▸ hb)) (hG2.lt b hb))
  obtain ⟨q0, q1, q2⟩ := box3 h8
  have hcell : ∀ b o, b ≠ b8 → b < w2.heap.size → w3.cell? ⟨b, o, none⟩ = w2.cell? ⟨b, o, none⟩ := fun b o h1 h2 => World.cell?_of_block (w := w2) (hk b h1 h2)
  have B := st2.B
  have z0 := hb0.size
  have z1 := ho1.size
  have z2 := hb1.size
  have z3 := ho2.size
  have z4 := ho3.size
  refine ⟨⟨?_, ?_, ?_, by omega, ?_⟩, ?_, hG3, hp2.sm, st2.two, hp2.full, st2.hn, st.hx, hp1.ext.trans hp2.ext, ?_, ?_, hp2.ov.trans hp1.ov, hp2.ext.ok hp1.ok, hp2.ok, ?_, ?_, ?_, ?_, ?_, ?_, q0, q1, q2, B.n3, B.n6, n8, Nat.lt_of_lt_of_le B.l3 ho3.size, Nat.lt_of_lt_of_le B.l6 ho3.size, own_lt2 h8, ?_, Nat.le_trans hp1.le hp2.le⟩
  · rw [ho3.os, ho2.os, hb1.os, ho1.os, hb0.os]
  · rw [ho3.tape, ho2.tape, hb1.tape, ho1.tape, hb0.tape]
  · rw [ho3.output, ho2.output, hb1.output, ho1.output, hb0.output]
  · intro b hb hO
    have hO1 : ¬ O1 b := fun e => (hg1 b e).elim hO (fun e => by omega)
    rw [hk b (by omega) (by omega), ho2.block b (by omega) hO1, hb1.block b (by omega), ho1.block b (by omega) hO, hb0.block b hb]
  · intro b hb
    rcases hg2 b hb with e | e
    · rcases hg1 b e with e | e
      · exact .inl e
      · exact .inr (by omega)
    · exact .inr (by omega)
  · have := hp1.cnt; have := hp2.cnt; omega
  · rcases hp2.nl with e | e
    · rcases hp1.nl with e1 | e1
      · exact .inl (e.trans e1)
      · right
        have : S1.nums.length ≤ S2.nums.length := by
          refine List.Nodup.length_le_of_subset (nums_nodup S1) ?_
          intro i hi
          exact GrS.mem_nums.2 (hp2.ext.has (GrS.mem_nums.1 hi))
        omega
    · exact .inr e
  · rw [hp2.ext.tab hp1.ok, hp1.tab, hs2, hs1]
  · rw [hp2.tab, hs2]
  · exact (hcell b3 0 n83 B.l3).trans B.c3
  · exact (hcell b6 0 n86 B.l6).trans B.o0
  · exact (hcell b6 1 n86 B.l6).trans B.o1
  · exact (hcell b6 2 n86 B.l6).trans B.o2
  · intro i m hm
    rcases hp2.new i m hm with e | e
    · rcases hp1.new i m e with e1 | e1
      · exact .inl e1
      · right
        rw [hp2.ext.sem (.inr ⟨m, e⟩)]
        exact e1
    · exact .inr e

def zN : Obj := .cells #[.int .i64 0, .int .i64 0, .int .i64 0] 214
theorem zero3 {w : World} {b : Nat} (h : w.heap[b]? = some zN) : (w.cell? ⟨b, 0, none⟩ = some (.int .i64 0) ∧ w.cell? ⟨b, 1, none⟩ = some (.int .i64 0) ∧ w.cell? ⟨b, 2, none⟩ = some (.int .i64 0)) ∧ (w.frozen? ⟨b, 0, none⟩ = false ∧ w.frozen? ⟨b, 1, none⟩ = false ∧ w.frozen? ⟨b, 2, none⟩ = false) :=
  ⟨box3 h, frozen_of_heap h, frozen_of_heap h, frozen_of_heap h⟩

/-- Behind turn. -/
structure GrS.Turn (S S' : GrS) (x y j : Nat) : Prop where
  order : S'.order = S.order
  ov : S'.ov = S.ov
  sm : S'.g.Sm (exy x y)
  full : S'.Full
  keeps : ∀ r, S.g.ok r → S'.g.ok r ∧ S'.g.tab r = S.g.tab r
  cnt : S'.nums.length ≤ S.nums.length + 2
  nl : S'.nl.length = S.nl.length ∨ S'.nl.length ≤ S'.nums.length + 1
  le : S.nl.length ≤ S'.nl.length
  old : ∀ i, i ≠ j → ∀ n, S.g.node i = some n → S'.g.node i = some n
  new : ∀ i n, S'.g.node i = some n → n.v = x → hangs (S'.g.sem i) y = true → i ≠ j ∧ S.g.node i = some n

theorem TurnMid.done {O O2 : Nat → Prop} {w0 w3 w4 w5 w6 : World} {gb : Nat} {S S2 : GrS} {l x y j : Nat} {n : Nd} {b3 b6 b5 b8 p q : Nat} (h : TurnMid O w0 w3 gb S S2 l x y j n b3 b6 b5 b8 p q O2) (hang : hangs (S.g.sem j) y = true) (hnS : S.g.node j = some n)
    {ov nv fv : Value} {mb rb : Nat} {M M1 M2 R : List (Value × Value)} (hA : GrAt O2 w3 gb S2 ov nv fv mb rb M R) {nb ncap : Nat} (en : nv = .slice (some ⟨nb, 0, none⟩) S2.nl.length ncap)
    (t1 : MapTurn w3 w4 mb) (q1 : ∀ p, p ∈ M1 ↔ p ∈ M ∧ p.1 ≠ ndKey n) (a2 : MapIs Tryz.prog 214 w5 mb M2) (t2 : MapTurn w4 w5 mb) (q2 : ∀ z, z ∈ M2 ↔ z = (ndKey ⟨y, p, q⟩, natv j) ∨ (z ∈ M1 ∧ z.1 ≠ ndKey ⟨y, p, q⟩))
    (e3 : w6 = ((w5.setCell ⟨nb, j * 3, none⟩ (.int .i64 (y : Int))).setCell ⟨nb, j * 3 + 1, none⟩ (.int .i64 (p : Int))).setCell ⟨nb, j * 3 + 2, none⟩ (.int .i64 (q : Int))) :
    ∃ S', GrStep O w0 gb w6 S' ∧ S.Turn S' x y j := by
  have hj := GrS.node_lt h.hn
  have hs : S2.g.sem j = S.g.sem j := h.ext.sem (.inr ⟨n, hnS⟩)
  have hang2 : hangs (S2.g.sem j) y = true := by rw [hs]; exact hang
  have ksm := h.k.turn h.two h.hn h.hx hang2 h.ok1 h.ok2 h.t1 h.t2
  have hinj : ∀ {i j n}, S2.g.node i = some n → S2.g.node j = some n → i = j := fun hi hj => h.k.si hi hj ((h.k.is hi).trans (h.k.is hj).symm)
  have hm : ∀ i, i ≠ j → S2.g.node i ≠ some ⟨y, p, q⟩ := by
    intro i hij hi
    apply hij
    refine h.k.si hi h.hn ?_
    rw [h.k.is hi]
    show iteT (mask y) (S2.g.tab p) (S2.g.tab q) = _
    rw [h.t1, h.t2, halves _ _ (h.k.lt6 y h.two.hy)]
  obtain ⟨ho, hA6⟩ := hA.turned (m := ⟨y, p, q⟩) hinj h.hn hm en t1 q1 a2 t2 q2 e3
  have hg := GrS.turned_g (S := S2) (m := ⟨y, p, q⟩) hj
  have hnode : ∀ i, (S2.turned j ⟨y, p, q⟩).g.node i = if i = j then some ⟨y, p, q⟩ else S2.g.node i := by intro i; rw [hg]; rfl
  have hsem : ∀ i, (S2.turned j ⟨y, p, q⟩).g.sem i = S2.g.sem i := fun i => rfl
  have hlen : (S2.turned j ⟨y, p, q⟩).nl.length = S2.nl.length := by show (S2.nl.set j _).length = _; rw [List.length_set]
  have hnums : (S2.turned j ⟨y, p, q⟩).nums = S2.nums := by
    unfold GrS.nums
    rw [hlen]
    refine List.filter_congr ?_
    intro i hi
    have := hnode i
    have h2 : (S2.turned j ⟨y, p, q⟩).nl.getD i none = if i = j then some ⟨y, p, q⟩ else S2.nl.getD i none := this
    rw [h2]
    by_cases e : i = j
    · subst e
      rw [if_pos rfl]
      have h3 : S2.nl.getD i none = some n := h.hn
      rw [h3]
      rfl
    · rw [if_neg e]
  refine ⟨S2.turned j ⟨y, p, q⟩, ⟨h.only.trans ho h.grows, O2, ⟨_, _, _, _, _, _, _, hA6⟩, h.grows⟩, ?_⟩
  refine ⟨h.ext.order, h.ov, by rw [hg]; exact ksm, ?_, ?_, by rw [hnums]; exact h.cnt, by rw [hlen, hnums]; exact h.nl, by rw [hlen]; exact h.le, ?_, ?_⟩
  · intro i h0 hi hn'
    rw [hlen] at hi
    rw [hnode] at hn'
    by_cases e : i = j
    · rw [if_pos e] at hn'; cases hn'
    · rw [if_neg e] at hn'
      exact h.full i h0 hi hn'
  · intro r hr
    rw [hg]
    exact ⟨(Gr.set_ok h.hn r).2 (h.ext.ok hr), h.ext.tab hr⟩
  · intro i hij m hm'
    rw [hnode, if_neg hij]
    exact h.ext.node hm'
  · intro i m hm' hv hh
    rw [hnode] at hm'
    rw [hsem] at hh
    by_cases e : i = j
    · rw [if_pos e] at hm'
      cases hm'
      exact absurd hv (fun e => h.two.ne e.symm)
    · rw [if_neg e] at hm'
      refine ⟨e, ?_⟩
      rcases h.new i m hm' with e1 | e1
      · exact e1
      · rw [e1] at hh; cases hh

end Go.Proofs.YtebfmcafmojlaaaGreatDoor

/-
  graph: turn, walked.
-/
namespace Go.Proofs.YtebfmcafmojlaaaGreatDoor
open Go.RowKit Go.Maps
set_option linter.unusedSimpArgs false
set_option linter.unusedVariables false

def TurnPost (O : Nat → Prop) (w : World) (gb : Nat) (S : GrS) (x y j : Nat) (e : Ending) (w' : World) : Prop := e = .returned (.tuple #[]) ∧ ∃ S', GrStep O w gb w' S' ∧ S.Turn S' x y j

theorem part_len {S S1 : GrS} {x y r : Nat} {F : Tab} (h : S.Part S1 x y r F) (hc : S.nums.length ≤ 90000) (hl : S.nl.length ≤ 90000) : S1.nl.length + 1 ≤ 100000 := by
  rcases h.nl with e | e
  · omega
  · have := h.cnt; omega

/-- A box that was laid ahead of a call that turns O. -/
theorem alloc_z {O O1 : Nat → Prop} {W1 wq w2 : World} (ho : Only O wq w2) (hg : Grows wq O O1) (h : wq.heap = (W1.alloc zN).heap) (hO : ¬ O W1.heap.size) : w2.heap[W1.heap.size]? = some zN ∧ ¬ O1 W1.heap.size := by
  have hs : wq.heap.size = W1.heap.size + 1 := by rw [h]; simp
  refine ⟨?_, fun e => (hg _ e).elim hO (fun e => by omega)⟩
  rw [ho.block W1.heap.size (by omega) hO, h]
  exact heap_alloc_new W1 _
theorem keep_z {O O1 : Nat → Prop} {b : Nat} {w2 wp w3 : World} (z : w2.heap[b]? = some zN ∧ ¬ O b) (hb : Below w2.heap.size w2 wp) (ho : Only O wp w3) (hg : Grows wp O O1) : w3.heap[b]? = some zN ∧ ¬ O1 b := by
  have hl := own_lt2 z.1
  have hs := hb.size
  refine ⟨?_, fun e => (hg _ e).elim z.2 (fun e => by omega)⟩
  rw [ho.block b (by omega) z.2, hb.block b hl]
  exact z.1

theorem stored3 {w3 : World} {b8 : Nat} (z : w3.heap[b8]? = some zN) (y p q : Int) : Only (fun b => b = b8) w3 (((w3.setCell ⟨b8, 0, none⟩ (.int .i64 y)).setCell ⟨b8, 1, none⟩ (.int .i64 p)).setCell ⟨b8, 2, none⟩ (.int .i64 q)) ∧ (((w3.setCell ⟨b8, 0, none⟩ (.int .i64 y)).setCell ⟨b8, 1, none⟩ (.int .i64 p)).setCell ⟨b8, 2, none⟩ (.int .i64 q)).heap[b8]? = some (.cells #[.int .i64 y, .int .i64 p, .int .i64 q] 214 (0, 0)) := by
  refine ⟨(((Only.refl (fun b => b = b8) w3).setCell (p := ⟨b8, 0, none⟩) (.inl rfl) _).setCell (p := ⟨b8, 1, none⟩) (.inl rfl) _).setCell (p := ⟨b8, 2, none⟩) (.inl rfl) _, ?_⟩
  unfold zN at z
  rw [heap_setCell_at (heap_setCell_at (heap_setCell_at z))]
  rfl
theorem laid3 (w3 : World) (y p q : Int) : Only (fun b => b = w3.heap.size) w3 (w3.alloc (.cells #[.int .i64 y, .int .i64 p, .int .i64 q] 214)) ∧ (w3.alloc (.cells #[.int .i64 y, .int .i64 p, .int .i64 q] 214)).heap[w3.heap.size]? = some (.cells #[.int .i64 y, .int .i64 p, .int .i64 q] 214 (0, 0)) :=
  ⟨only_of_below ((Below.refl _ _).alloc (Nat.le_refl _) _) _, heap_alloc_new w3 _⟩

theorem turn_fin {O O1 O2 : Nat → Prop} {w W1 wq w2 wp w3 w4 : World} {gb : Nat} {S S1 S2 : GrS} {l x y j : Nat} {n : Nd} {b8 p q : Nat} {ov : Value} {tn : TypeId} (hW : Below w.heap.size w W1) (hWS : W1.heap.size = w.heap.size + 3) (st : TurnSt O W1 gb S l x y j n w.heap.size (w.heap.size + 1 + 1) (w.heap.size + 1) ov) (hb1 : Below W1.heap.size W1 wq)
    (ho1 : Only O wq w2) (hg1 : Grows wq O O1) (hG1 : GrIs O1 w2 gb S1) (hp1 : S.Part S1 x y p (given (S.g.sem j) y true)) (hb2 : Below w2.heap.size w2 wp) (ho2 : Only O1 wp w3) (hg2 : Grows wp O1 O2) (hG2 : GrIs O2 w3 gb S2) (hp2 : S1.Part S2 x y q (given (S1.g.sem j) y false))
    (h3 : Only (fun b => b = b8) w3 w4 ∧ w4.heap[b8]? = some (.cells #[.int .i64 (y : Int), .int .i64 (p : Int), .int .i64 (q : Int)] tn (0, 0))) (n8 : ¬ O2 b8) (hge : W1.heap.size ≤ b8) : TurnMid O w w4 gb S S2 l x y j n w.heap.size (w.heap.size + 1 + 1) (w.heap.size + 1) b8 p q O2 :=
  turn_mid (hW.trans (hb1.mono hW.size)) (st.below hb1) ho1 hg1 hG1 hp1 hb2 ho2 hg2 hG2 hp2 h3.1 h3.2 n8 (by omega) (by omega) (by omega)

set_option maxHeartbeats 2000000 in
set_option maxRecDepth 10000 in
theorem graphTurn_is {O : Nat → Prop} {w : World} {gb : Nat} {S : GrS} {l x y j : Nat} {n : Nd} (hG : GrIs O w gb S) (k : S.g.Sm (exy x y)) (two : S.g.Two l x y) (hF : S.Full) (hn : S.g.node j = some n) (hx : n.v = x) (hang : hangs (S.g.sem j) y = true) (hc : S.nums.length ≤ 80000) (hl : S.nl.length ≤ 90000) :
    Calls Tryz.prog 167 #[.pointer (some ⟨gb, 0, none⟩), .int .i64 (j : Int), .int .i64 (l : Int)] w (TurnPost O w gb S x y j) := by
  have hW := turnW_below w gb l n
  have hWs := turnW_size w gb l n
  obtain ⟨q3, q5, q6⟩ := turnW_cells w gb l n
  have hlt0 := hG.lt
  have hOn : ∀ b, w.heap.size ≤ b → ¬ O b := fun b hb ho => by have := hlt0 b ho; omega
  have hj := GrS.node_lt hn
  obtain ⟨ov, nv, fv, mb, rb, M, R, hA⟩ := hG
  have hol := hA.ol
  obtain ⟨c0, c1, c2, c3, c4⟩ := hA.c
  obtain ⟨nb, ncap, en, hnb, hob, hnode⟩ := hA.nodeAt
  subst en
  obtain ⟨hi, d0, d1, d2⟩ := hnode _ _ hn
  have hgl := hA.lt gb hA.self
  obtain ⟨W1, hW1⟩ : ∃ W1, W1 = turnW w gb l n := ⟨_, rfl⟩
  rw [← hW1] at hW hWs q3 q5 q6
  unfold turnW at hW1
  have st : TurnSt O W1 gb S l x y j n w.heap.size (w.heap.size + 1 + 1) (w.heap.size + 1) ov := by
    refine ⟨⟨_, _, _, _, _, _, _, hA.below hW⟩, k, two, hF, hn, hx, ⟨hOn _ (by omega), hOn _ (by omega), hOn _ (by omega), by omega, by omega, by omega, ?_, ?_, ?_, ?_, ?_⟩, hA.eov⟩
    · rw [cell_of_heap q3]; rfl
    · rw [cell_of_heap q6]; rfl
    · rw [cell_of_heap q6]; rfl
    · rw [cell_of_heap q6]; rfl
    · rw [cell_of_heap q5]; rfl
  obtain ⟨ob, cap, eov, hlN, _, _⟩ := st.reads
  subst eov
  have hl6 : l < 6 := by omega
  have hwr : IntKind.i64.wrap ((l : Int) + 1) = (l : Int) + 1 := wrap_six _ (by omega)
  have hlN' : (l : Int) + 1 < (S.order.length : Int) := by omega
  have hbody : ∀ wq, Below W1.heap.size W1 wq → Calls Tryz.prog 181 #[.bool true, .pointer (some ⟨w.heap.size, 0, none⟩), .pointer (some ⟨w.heap.size + 1 + 1, 0, none⟩), .pointer (some ⟨w.heap.size + 1, 0, none⟩)] wq (fun e w' => (∃ r : Nat, e = .returned (.int .i64 (r : Int)) ∧ ∃ S1 O1, Only O wq w' ∧ Grows wq O O1 ∧ GrIs O1 w' gb S1 ∧ S.Part S1 x y r (given (S.g.sem j) y true)) ∧ Below W1.heap.size W1 wq) := by
    intro wq hb
    refine ((st.below hb).body (by omega) true).mono ?_
    rintro e w' ⟨r, S1, he, ⟨ho, O1, hG1, hg⟩, hp⟩
    exact ⟨⟨r, he, S1, O1, ho, hg, hG1, hp⟩, hb⟩
  have hWle : w.heap.size ≤ W1.heap.size := by omega
  have HWS : Hid (W1.heap.size = w.heap.size + 3) := hWs
  clear hWs
  have HA : Hid _ := hA
  have HST : Hid _ := st
  have HN : Hid (S.g.node j = some n) := hn
  clear hA k two hF hn hx hnode hlN c0 c2 c3 c4 q3 q5 q6 hob
  go_enter Tryz.func167, Tryz.ntmps167
  go_upto_region 3 with fail
  rw [← hW1]
  clear hW1 c1 d0 d1 d2
  go_cut [8] from 17 (fun b8v wx => ∃ b8 p q S2 O2, b8v = .pointer (some ⟨b8, 0, none⟩) ∧ TurnMid O w wx gb S S2 l x y j n w.heap.size (w.heap.size + 1 + 1) (w.heap.size + 1) b8 p q O2)
  case first =>
    obtain ⟨a3, a0, a5, aob⟩ := st.held
    have na3 := World.new_ne W1 _ a3
    have na0 := World.new_ne W1 _ a0
    have na5 := World.new_ne W1 _ a5
    have naob := World.new_ne W1 _ aob
    have hb2c : ∀ (O1 : Nat → Prop) (S1 : GrS) (wq wp : World), TurnSt O1 wq gb S1 l x y j n w.heap.size (w.heap.size + 1 + 1) (w.heap.size + 1) (.slice (some ⟨ob, 0, none⟩) S.order.length cap) → S1.nl.length + 1 ≤ 100000 → Below wq.heap.size wq wp → Calls Tryz.prog 181 #[.bool false, .pointer (some ⟨w.heap.size, 0, none⟩), .pointer (some ⟨w.heap.size + 1 + 1, 0, none⟩), .pointer (some ⟨w.heap.size + 1, 0, none⟩)] wp (fun e w' => (∃ r : Nat, e = .returned (.int .i64 (r : Int)) ∧ ∃ S2 O2, Only O1 wp w' ∧ Grows wp O1 O2 ∧ GrIs O2 w' gb S2 ∧ S1.Part S2 x y r (given (S1.g.sem j) y false)) ∧ Below wq.heap.size wq wp) := by
      intro O1 S1 wq wp st1 hl1 hb
      refine ((st1.below hb).body hl1 false).mono ?_
      rintro e w' ⟨r, S2, he, ⟨ho, O2, hG2, hg⟩, hp⟩
      exact ⟨⟨r, he, S2, O2, ho, hg, hG2, hp⟩, hb⟩
    go_region_held (fun w' => w'.cell? ⟨w.heap.size, 0, none⟩ = some (.pointer (some ⟨gb, 0, none⟩)) ∧ w'.cell? ⟨gb, 0, none⟩ = some (.slice (some ⟨ob, 0, none⟩) S.order.length cap) ∧ w'.cell? ⟨w.heap.size + 1, 0, none⟩ = some (.int .i64 (l : Int)) ∧ w'.cell? ⟨ob, l + 1, none⟩ = some (.int .i64 (y : Int))) (go_keep) (first
      | (go_at_call 181; refine (hbody _ ?_).mono ?_; (first | exact (Below.refl _ _).drew | exact ((Below.refl _ _).alloc (Nat.le_refl _) _).drew | exact ((Below.refl _ _).drew).alloc (Nat.le_refl _) _); clear hbody; rintro e w2 ⟨⟨r1, rfl, S1, O1, ho1, hg1, hG1, hp1⟩, hb1⟩; have st1 := (HST.out.below hb1).next ho1 hg1 hG1 hp1; obtain ⟨k3, k0, k5, kob⟩ := st1.held; have nk3 := World.new_ne w2 _ k3; have nk0 := World.new_ne w2 _ k0; have nk5 := World.new_ne w2 _ k5; have nkob := World.new_ne w2 _ kob; have hl1 := part_len hp1 (by omega) (by omega); (first | (have z1 := alloc_z (W1 := W1) ho1 hg1 rfl (hOn _ hWle)) | skip))
      | (go_at_call 181; refine (hb2c _ _ _ _ st1 hl1 ?_).mono ?_; (first | exact Below.refl _ _ | exact (Below.refl _ _).alloc (Nat.le_refl _) _); clear hb2c; rintro e w3 ⟨⟨r2, rfl, S2, O2, ho2, hg2, hG2, hp2⟩, hb2⟩; have st2 := (st1.below hb2).next ho2 hg2 hG2 hp2; obtain ⟨m3, m0, m5, mob⟩ := st2.held; have nm3 := World.new_ne w3 _ m3; have nm0 := World.new_ne w3 _ m0; have nm5 := World.new_ne w3 _ m5; have nmob := World.new_ne w3 _ mob; (first | (have z2 := keep_z z1 hb2 ho2 hg2; obtain ⟨⟨y0, y1, y2⟩, f0, f1, f2⟩ := zero3 z2.1) | (have z2 := alloc_z (W1 := w2) ho2 hg2 rfl (fun e => absurd (hG1.lt _ e) (Nat.lt_irrefl _)); obtain ⟨⟨y0, y1, y2⟩, f0, f1, f2⟩ := zero3 z2.1) | (obtain ⟨⟨y0, y1, y2⟩, f0, f1, f2⟩ := zero3 (heap_alloc_new w3 zN); unfold zN at y0 y1 y2 f0 f1 f2))))
    all_goals
      go_wp2_with fail
      go_meet
      first
        | exact ⟨W1.heap.size, r1, r2, S2, O2, rfl, turn_fin hW HWS.out HST.out hb1 ho1 hg1 hG1 hp1 hb2 ho2 hg2 hG2 hp2 (stored3 z2.1 _ _ _) z2.2 (Nat.le_refl _)⟩
        | exact ⟨w2.heap.size, r1, r2, S2, O2, rfl, turn_fin hW HWS.out HST.out hb1 ho1 hg1 hG1 hp1 hb2 ho2 hg2 hG2 hp2 (stored3 z2.1 _ _ _) z2.2 (Nat.le_trans hb1.size ho1.size)⟩
        | exact ⟨w3.heap.size, r1, r2, S2, O2, rfl, turn_fin hW HWS.out HST.out hb1 ho1 hg1 hG1 hp1 hb2 ho2 hg2 hG2 hp2 (laid3 w3 _ _ _) (fun e => absurd (hG2.lt _ e) (Nat.lt_irrefl _)) (Nat.le_trans (Nat.le_trans hb1.size ho1.size) (Nat.le_trans hb2.size ho2.size))⟩
  case rest =>
    obtain ⟨b8, p, q, S2, O2, rfl, mid⟩ := hcut
    obtain ⟨ov2, nv2, fv2, mb2, rb2, M2, R2, hA2⟩ := mid.G
    obtain ⟨e0, e1, e2, e3, e4⟩ := hA2.c
    obtain ⟨nb2, ncap2, ncur, en2, hnb2, hob2, hngb2, hncap2, hncm2, hncs2, hntk2⟩ := hA2.nodesBlock
    have hj2 : j < S2.nl.length := GrS.node_lt mid.hn
    subst en2
    have hmaps := hA2.maps_ne
    have hs1 := hA2.small (mid.k.tok mid.hn)
    have hs2 := hA2.small (mid.k.eok mid.hn)
    have hs3 := hA2.small mid.ok1
    have hs4 := hA2.small mid.ok2
    have hv6 := mid.k.v6 mid.hn
    have hy6 := mid.k.lt6 y mid.two.hy
    have hkey1 : KeyOk Tryz.prog 214 (ndKey n) := node_key_ok n.v n.t n.e (by unfold refMax; omega) (by unfold refMax; omega) (by unfold refMax; omega)
    have hkey2 : KeyOk Tryz.prog 214 (ndKey ⟨y, p, q⟩) := node_key_ok y p q (by unfold refMax; omega) (by unfold refMax; omega) (by unfold refMax; omega)
    obtain ⟨w4, M1, hrunD, a1, t1, q1⟩ := (hA2.nums.same (w' := wc.drew) rfl).drop node_keyed Tryz.underlying153 hkey1 0
    obtain ⟨w5, M3, hrunU, a2, t2, q2, _, _⟩ := (a1.same (w' := w4.drew) rfl).store node_keyed Tryz.underlying153 (val := .int .i64 (j : Int)) hkey2
    have t1' := t1.undrew
    have t2' := t2.undrew
    have b4 : ∀ b, b < wc.heap.size → b ≠ mb2 → w4.heap[b]? = wc.heap[b]? := fun b hb hne => t1'.1.block b hb (by simp; exact hne)
    have z4 := t1'.2
    have b5 : ∀ b, b < wc.heap.size → b ≠ mb2 → w5.heap[b]? = wc.heap[b]? := fun b hb hne => (t2'.1.block b (by omega) (by simp; exact hne)).trans (b4 b hb hne)
    have nm3 : w.heap.size ≠ mb2 := fun e => mid.n3 (e ▸ hA2.om)
    have nm8 : b8 ≠ mb2 := fun e => mid.n8 (e ▸ hA2.om)
    have nmg : gb ≠ mb2 := (hmaps gb _ _ _ hA2.cells).1
    have nmn : nb2 ≠ mb2 := (hmaps nb2 _ _ _ hnb2).1
    have hgl2 := hA2.lt gb hA2.self
    have hnl2 : nb2 < wc.heap.size := own_lt2 hnb2
    have cw4 : ∀ b o, b < wc.heap.size → b ≠ mb2 → w4.cell? ⟨b, o, none⟩ = wc.cell? ⟨b, o, none⟩ := fun b o h1 h2 => World.cell?_of_block (w := wc) (b4 b h1 h2)
    have cw5 : ∀ b o, b < wc.heap.size → b ≠ mb2 → w5.cell? ⟨b, o, none⟩ = wc.cell? ⟨b, o, none⟩ := fun b o h1 h2 => World.cell?_of_block (w := wc) (b5 b h1 h2)
    have x3 := mid.c3
    have x60 := mid.o0
    have x61 := mid.o1
    have x62 := mid.o2
    have y3 := (cw4 _ 0 mid.l3 nm3).trans mid.c3
    have yg := (cw4 _ 2 hgl2 nmg).trans e2
    have y80 := (cw4 _ 0 mid.l8 nm8).trans mid.u0
    have y81 := (cw4 _ 1 mid.l8 nm8).trans mid.u1
    have y82 := (cw4 _ 2 mid.l8 nm8).trans mid.u2
    have v3 := (cw5 _ 0 mid.l3 nm3).trans mid.c3
    have vg := (cw5 _ 1 hgl2 nmg).trans e1
    have v80 := (cw5 _ 0 mid.l8 nm8).trans mid.u0
    have v81 := (cw5 _ 1 mid.l8 nm8).trans mid.u1
    have v82 := (cw5 _ 2 mid.l8 nm8).trans mid.u2
    have hnc5 := (b5 nb2 hnl2 nmn).trans hnb2
    have hsz : j * 3 + 2 < ncur.size := by rw [hncs2]; omega
    obtain ⟨s0, r0⟩ := cell3 (i := j * 3) hnc5 (by omega)
    obtain ⟨s1, r1⟩ := cell3 (i := j * 3 + 1) hnc5 (by omega)
    obtain ⟨s2, r2⟩ := cell3 (i := j * 3 + 2) hnc5 (by omega)
    have f0 : w5.frozen? ⟨nb2, j * 3, none⟩ = false := frozen_of_heap hnc5
    have f1 : w5.frozen? ⟨nb2, j * 3 + 1, none⟩ = false := frozen_of_heap hnc5
    have f2 : w5.frozen? ⟨nb2, j * 3 + 2, none⟩ = false := frozen_of_heap hnc5
    have hfin := mid.done hang HN.out hA2 rfl t1' q1 (a2.same (w' := w5.drew) rfl) t2'.drewR q2 rfl
    have HFIN : Hid _ := hfin
    have hjn : (j : Int) < (S2.nl.length : Int) := by omega
    obtain ⟨nV, nT, nE⟩ := n
    unfold ndKey key3 at hrunD hrunU
    dsimp only at x60 x61 x62 hrunD hrunU
    have HR : Hid _ := hrunD
    clear hfin hrunD a1 a2 t1 t2 t1' t2' q1 q2 b4 b5 cw4 cw5 hnc5 hsz hncs2 hntk2 hncm2 hncap2 hnb2 hob2 hngb2 hA2 mid hmaps hkey1 hkey2 hs1 hs2 hs3 hs4 hv6 hy6 e0 e3 e4 z4 nm3 nm8 nmg nmn hgl2 hnl2 hang HN HST HA hbody st hOn hlt0 hW HWS hWle hwr hlN' hl6 hc hl
    go_upto_region 4 with fail
    go_region_law (refine step_delete_run rfl (.tmp 33) (.tmp 34) 153 214 rfl HR.out (by simp [Act.eval, Act.put]) (by simp [Act.eval, Act.put]) ?_)
    all_goals
      clear HR x3 x60 x61 x62 e1 e2
      go_upto_region 5 with fail
      go_region
      all_goals
        clear hrunU y3 yg y80 y81 y82
        go_upto_region 6 with fail
        go_region
        all_goals
          go_wp2_with fail
          first
            | exact ⟨rfl, HFIN.out⟩
            | (go_end0; exact ⟨rfl, HFIN.out⟩)

end Go.Proofs.YtebfmcafmojlaaaGreatDoor

/-
  graph: swap: the order turned, in memory; what the rounds carry.
-/
namespace Go.Proofs.YtebfmcafmojlaaaGreatDoor
open Go.RowKit Go.Maps
set_option linter.unusedSimpArgs false
set_option linter.unusedVariables false

def swapO (o : List Nat) (l x y : Nat) : List Nat := (o.set l y).set (l + 1) x

theorem two_split {o : List Nat} {l x y : Nat} (hd : o.Nodup) (hx : x ∈ o) (hy : y ∈ o) (ix : o.idxOf x = l) (iy : o.idxOf y = l + 1) : ∃ A B, o = A ++ x :: y :: B ∧ A.length = l := by
  have hl1 : l + 1 < o.length := by rw [← iy]; exact List.idxOf_lt_length_of_mem hy
  have gx : o[l]? = some x := by
    rw [← ix]
    exact List.getElem?_eq_some_iff.2 ⟨List.idxOf_lt_length_of_mem hx, List.getElem_idxOf (List.idxOf_lt_length_of_mem hx)⟩
  have gy : o[l + 1]? = some y := by
    rw [← iy]
    exact List.getElem?_eq_some_iff.2 ⟨List.idxOf_lt_length_of_mem hy, List.getElem_idxOf (List.idxOf_lt_length_of_mem hy)⟩
  refine ⟨o.take l, o.drop (l + 2), ?_, by rw [List.length_take]; omega⟩
  have h1 : o.drop l = x :: o.drop (l + 1) := by
    rw [List.drop_eq_getElem_cons (by omega)]
    congr 1
    have := List.getElem?_eq_some_iff.1 gx
    exact this.2
  have h2 : o.drop (l + 1) = y :: o.drop (l + 2) := by
    rw [List.drop_eq_getElem_cons (by omega)]
    congr 1
    have := List.getElem?_eq_some_iff.1 gy
    exact this.2
  rw [← h2, ← h1, List.take_append_drop]

theorem swapO_split (A B : List Nat) (x y : Nat) : swapO (A ++ x :: y :: B) A.length x y = A ++ y :: x :: B := by
  unfold swapO
  rw [List.set_append_right _ _ (Nat.le_refl _), Nat.sub_self, List.set_append_right _ _ (by omega), show A.length + 1 - A.length = 1 by omega]
  rfl

structure SwapO (o o' : List Nat) (l x y : Nat) : Prop where
  nd : o'.Nodup
  mem : ∀ u, u ∈ o' ↔ u ∈ o
  ix : o'.idxOf x = l + 1
  iy : o'.idxOf y = l
  io : ∀ u ∈ o, u ≠ x → u ≠ y → o'.idxOf u = o.idxOf u
  len : o'.length = o.length

theorem swapO_is {o : List Nat} {l x y : Nat} (hd : o.Nodup) (hx : x ∈ o) (hy : y ∈ o) (ix : o.idxOf x = l) (iy : o.idxOf y = l + 1) : SwapO o (swapO o l x y) l x y := by
  obtain ⟨A, B, rfl, hl⟩ := two_split hd hx hy ix iy
  subst hl
  rw [swapO_split]
  rw [List.nodup_append] at hd
  obtain ⟨hA, hB, hAB⟩ := hd
  rw [List.nodup_cons, List.nodup_cons] at hB
  obtain ⟨hxB, hyB, hB⟩ := hB
  simp only [List.mem_cons, not_or] at hxB
  have hxA : x ∉ A := fun e => hAB x e x (by simp) rfl
  have hyA : y ∉ A := fun e => hAB y e y (by simp) rfl
  refine ⟨?_, ?_, ?_, ?_, ?_, by simp⟩
  · rw [List.nodup_append]
    refine ⟨hA, ?_, ?_⟩
    · rw [List.nodup_cons, List.nodup_cons]
      refine ⟨?_, hxB.2, hB⟩
      simp only [List.mem_cons, not_or]
      exact ⟨fun e => hxB.1 e.symm, hyB⟩
    · intro a ha b hb e
      refine hAB a ha b ?_ e
      simp only [List.mem_cons] at hb ⊢
      rcases hb with h | h | h
      · exact .inr (.inl h)
      · exact .inl h
      · exact .inr (.inr h)
  · intro u
    simp only [List.mem_append, List.mem_cons]
    constructor
    · rintro (h | h | h | h)
      · exact .inl h
      · exact .inr (.inr (.inl h))
      · exact .inr (.inl h)
      · exact .inr (.inr (.inr h))
    · rintro (h | h | h | h)
      · exact .inl h
      · exact .inr (.inr (.inl h))
      · exact .inr (.inl h)
      · exact .inr (.inr (.inr h))
  · rw [List.idxOf_append, if_neg hxA, List.idxOf_cons, List.idxOf_cons]
    have e1 : (y == x) = false := by simpa using fun e => hxB.1 e.symm
    have e2 : (x == x) = true := by simp
    rw [e1, e2]
    simp
    omega
  · rw [List.idxOf_append, if_neg hyA, List.idxOf_cons]
    have e2 : (y == y) = true := by simp
    rw [e2]
    simp
  · intro u hu hux huy
    rw [List.idxOf_append, List.idxOf_append]
    split
    · rfl
    · rw [List.idxOf_cons, List.idxOf_cons, List.idxOf_cons, List.idxOf_cons]
      have e1 : (y == u) = false := by simpa using fun e => huy e.symm
      have e2 : (x == u) = false := by simpa using fun e => hux e.symm
      rw [e1, e2]

theorem GrAt.reorder {O : Nat → Prop} {w w' : World} {gb : Nat} {S : GrS} {ov nv fv : Value} {mb rb : Nat} {M R : List (Value × Value)} (h : GrAt O w gb S ov nv fv mb rb M R) {ob cap l x y : Nat} (eo : ov = .slice (some ⟨ob, 0, none⟩) S.order.length cap)
    (e : w' = (w.setCell ⟨ob, l, none⟩ (.int .i64 (y : Int))).setCell ⟨ob, l + 1, none⟩ (.int .i64 (x : Int))) :
    Only O w w' ∧ GrAt O w' gb { S with order := swapO S.order l x y } ov nv fv mb rb M R := by
  have hmaps := h.maps_ne
  have hr := h.order.1
  rw [List.length_map] at hr
  obtain ⟨cur, hob⟩ : ∃ cur, w.heap[ob]? = some (.cells cur 3 (0, 0)) := h.order.block (by rw [eo]; rfl)
  have hobO : O ob := h.order.2 ob (by rw [eo]; rfl)
  have hbo : ∀ b, b ≠ ob → w'.heap[b]? = w.heap[b]? := by
    intro b hb
    rw [e, Below.heap_setCell _ _ _ _ hb, Below.heap_setCell _ _ _ _ hb]
  have hs : w'.heap.size = w.heap.size := by rw [e]; simp [World.setCell]
  have hon : Only O w w' := by
    rw [e]
    exact ((Only.refl O w).setCell (p := ⟨ob, l, none⟩) (.inl hobO) _).setCell (p := ⟨ob, l + 1, none⟩) (.inl hobO) _
  have hgo : gb ≠ ob := by intro e'; rw [← e', h.cells] at hob; simp at hob
  obtain ⟨nb', ncap', ncur, en', hnb, _⟩ := h.nodesBlock
  have hno : nb' ≠ ob := by intro e'; rw [← e', hnb] at hob; simp at hob
  refine ⟨hon, { lt := fun b hb => by rw [hs]; exact h.lt b hb, eov := h.eov, self := h.self, om := h.om, orr := h.orr, cells := (hbo gb hgo).trans h.cells, order := ?_, nodes := ?_, nin := h.nin, free := ?_, nums := h.nums.same (hbo mb (hmaps ob _ _ _ hob).1.symm), res := h.res.same (hbo rb (hmaps ob _ _ _ hob).2.symm), mok := h.mok, rok := h.rok, rlen := h.rlen, mr := h.mr, of := h.of, n1 := h.n1, nlen := h.nlen, ol := ?_, fdup := h.fdup, fok := h.fok }⟩
  · refine ⟨?_, h.order.2⟩
    show w'.ownsRow 0 3 1 ov ((swapO S.order l x y).map natv).length ((swapO S.order l x y).map natv)
    have hlen : (swapO S.order l x y).length = S.order.length := by unfold swapO; simp
    rw [List.length_map, hlen]
    rcases hr.2 with ⟨e1, _⟩ | ⟨g, cap', cur', e1, hb, hg, hnc, hcm, hcs, htake⟩
    · rw [eo] at e1; simp at e1
    · rw [eo] at e1
      simp only [Value.slice.injEq, Option.some.injEq, Addr.mk.injEq, and_true, true_and] at e1
      obtain ⟨rfl, rfl⟩ := e1
      refine ⟨by rw [List.length_map, hlen]; omega, .inr ⟨ob, cap, (cur'.setIfInBounds l (.int .i64 (y : Int))).setIfInBounds (l + 1) (.int .i64 (x : Int)), eo, hb, ?_, hnc, hcm, by simpa using hcs, ?_⟩⟩
      · rw [e]
        exact heap_setCell_at (heap_setCell_at hg)
      · rw [Nat.mul_one] at htake ⊢
        simp only [Array.toList_setIfInBounds]
        rw [List.take_set, List.take_set, htake]
        unfold swapO
        rw [List.map_set, List.map_set]
        rfl
  · refine owns_same (w' := w') h.nodes (fun k hk => hbo k ?_)
    rw [en'] at hk
    simp [Value.ownBlock] at hk
    rw [← hk]
    exact hno
  · refine h.free.same (fun k hk => hbo k ?_)
    intro e'
    subst e'
    rcases h.of with e1 | e1
    · rw [eo] at e1; cases e1
    · exact e1 (by rw [eo]; exact hk.symm)
  · show (swapO S.order l x y).length ≤ 6
    unfold swapO
    simpa using h.ol

end Go.Proofs.YtebfmcafmojlaaaGreatDoor

