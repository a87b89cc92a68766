/-
  maps.Keys over the live handles.
-/
import Derived.Sort.MapsRangeIn
import Derived.Maps.RangeWalk
import Derived.Test.YtebfmcafmojlaaaGreatDoorT19
import Derived.Test.YtebfmcafmojlaaaGreatDoorT17
namespace Go.Proofs.YtebfmcafmojlaaaGreatDoor
open Go.RowKit Go.Maps Go.Shelf Go.MapKept
open Go.WideElems (Fit rd rg rd_key rg_of rd_mk)
set_option linter.unusedSimpArgs false
set_option linter.unusedVariables false
attribute [local go_sem] Oper.semAt_some

/-- The live handles, as the entries of their map. -/
def liveL (rs : List Nat) : List (Value × Value) := rs.map (fun r => (natv r, .agg #[]))

theorem ownsMap_live {w : World} {b : Nat} {L : List (Value × Value)} (h : MapIs Tryz.prog 80 w b L) (hv : ∀ p ∈ L, p.2 = .agg #[]) (hn : ∀ p ∈ L, ∃ r : Nat, p.1 = natv r ∧ r < refMax) (hl : L.length ≤ maxLen) :
    ∃ D : DataW Unit, w.ownsMap Tryz.prog 80 (unitElem (H := Unit)) b L.length D ∧ ∀ z : Int, Maps.has D (.int .i64 z) = true ↔ ∃ r : Nat, z = r ∧ (natv r, Value.agg #[]) ∈ L := by
  obtain ⟨es, clock, hb, hs, hk, rfl⟩ := h
  have hread : ∀ x ∈ es.toList, ∃ r : Nat, x.key = natv r ∧ x.val = .agg #[] ∧ rd Tryz.prog 80 (unitElem (H := Unit)) x = some (.int .i64 (r : Int), .agg []) := by
    intro x hx
    obtain ⟨r, hr, hrm⟩ := hn (x.key, x.val) (List.mem_map.2 ⟨x, hx, rfl⟩)
    have hval := hv (x.key, x.val) (List.mem_map.2 ⟨x, hx, rfl⟩)
    simp only at hr hval
    refine ⟨r, hr, hval, ?_⟩
    obtain ⟨key, val, born⟩ := x
    simp only at hr hval
    subst hr hval
    exact rd_mk (keyOf_int_mk Tryz.underlying80 (wf_i64_nat r hrm)) unitElem_mk
  have F : Fit Tryz.prog 80 (unitElem (H := Unit)) es clock := ⟨by simpa using hl, hs, fun x hx => by obtain ⟨r, _, _, h3⟩ := hread x hx; exact ⟨_, h3⟩⟩
  refine ⟨_, ⟨es, clock, hb, F, by simp, rfl⟩, ?_⟩
  intro z
  rw [Maps.has_eq, List.any_eq_true]
  constructor
  · rintro ⟨p, hp, hsame⟩
    rw [mem_sorted] at hp
    obtain ⟨x, hx, rfl⟩ := List.mem_map.1 hp
    obtain ⟨r, h1, h2, h3⟩ := hread x hx
    rw [rg_of h3] at hsame
    have := WideAt.sameKey_eq hsame
    simp at this
    exact ⟨r, this.symm, List.mem_map.2 ⟨x, hx, by rw [h1, h2]⟩⟩
  · rintro ⟨r, rfl, hm⟩
    obtain ⟨x, hx, ex⟩ := List.mem_map.1 hm
    obtain ⟨r', h1, h2, h3⟩ := hread x hx
    simp only [Prod.mk.injEq] at ex
    have : r' = r := natv_inj (h1.symm.trans ex.1)
    subst this
    refine ⟨rg Tryz.prog 80 (unitElem (H := Unit)) x, mem_sorted.2 (List.mem_map.2 ⟨x, hx, rfl⟩), ?_⟩
    rw [rg_of h3]
    exact WideAt.sameKey_self trivial

theorem mapsKeys_is (b : Nat) (w : World) : Calls Tryz.prog 89 #[.map (some b)] w fun e w' => e = .returned (.func (.func 143) #[] #[.pointer (some ⟨w.heap.size, 0, none⟩)]) ∧ w' = w.alloc (.cells #[.map (some b)] 75) := by
  have hmf : ∀ (fn : Fn) (first cap : Array Value) (w : World), (Instr.makeFunc fn first cap).run Tryz.prog w = .ok (.func fn first cap) w := fun _ _ _ _ => rfl
  go_enter Tryz.func89, Tryz.ntmps89
  go_wp2
  go_ret
  exact ⟨rfl, rfl⟩

/-- What has come of the keys, and what is left. -/
def CameK {G : Gr} (D : DataW Unit) (left : Lit → Bool) (ss : List (RefT G)) : Prop := ∀ z : Int, (∃ x ∈ ss, ((x.1 : Nat) : Int) = z) ↔ (Maps.has D (.int .i64 z) = true ∧ left (.int .i64 z) = false)

theorem CameK.start {G : Gr} (D : DataW Unit) : CameK (G := G) D (Maps.has D) [] := by
  intro z
  constructor
  · rintro ⟨x, hx, _⟩; simp at hx
  · rintro ⟨h1, h2⟩; rw [h1] at h2; cases h2

theorem CameK.step {G : Gr} {D : DataW Unit} {left : Lit → Bool} {ss : List (RefT G)} (h : CameK D left ss) (x : RefT G) (hx : Maps.has D (.int .i64 ((x.1 : Nat) : Int)) = true) :
    CameK D (fun z => left z && !z.sameKey (.int .i64 ((x.1 : Nat) : Int))) (ss ++ [x]) := by
  intro z
  constructor
  · rintro ⟨y, hy, rfl⟩
    rcases List.mem_append.1 hy with e | e
    · obtain ⟨a, b⟩ := (h _).1 ⟨y, e, rfl⟩
      exact ⟨a, by simp [b]⟩
    · simp at e
      subst e
      have hself : (Lit.int .i64 ((y.1 : Nat) : Int)).sameKey (.int .i64 ((y.1 : Nat) : Int)) = true := WideAt.sameKey_self trivial
      exact ⟨hx, by simp only [hself]; simp⟩
  · rintro ⟨a, b⟩
    simp only [Bool.and_eq_false_iff] at b
    rcases b with b | b
    · obtain ⟨y, hy, e⟩ := (h z).2 ⟨a, b⟩
      exact ⟨y, List.mem_append_left _ hy, e⟩
    · have : (Lit.int .i64 z).sameKey (.int .i64 ((x.1 : Nat) : Int)) = true := by simpa using b
      have := WideAt.sameKey_eq this
      simp at this
      exact ⟨x, by simp, this.symm⟩

theorem keyOf_ref_inv {v : Value} {kl : Lit} (h : keyOf Tryz.prog 80 v = some kl) : ∃ z : Int, v = .int .i64 z ∧ kl = .int .i64 z := by
  obtain ⟨z, h1, h2⟩ := Maps.keyOf_int_inv Tryz.underlying80 h
  exact ⟨z, h1, h2.1⟩

set_option maxHeartbeats 1000000 in
set_option maxRecDepth 100000 in
theorem keys_stops {G : Gr} (n : Nat) (hn : 1 ≤ n) (Bm b nn : Nat) (D : DataW Unit) (w : World) (hBm : Bm < w.heap.size) (hm : w.cell? ⟨Bm, 0, none⟩ = some (.map (some b))) (hown : w.ownsMap Tryz.prog 80 (unitElem (H := Unit)) b nn D)
    (hok : ∀ z : Int, Maps.has D (.int .i64 z) = true → ∃ r : Nat, z = r ∧ G.ok r ∧ r < refMax) :
    SeqStopsK Fence.wide n Tryz.prog 143 #[.pointer (some ⟨Bm, 0, none⟩)] (encR G) KeepsWalks (fun xs => ∀ z : Int, (∃ x ∈ xs, ((x.1 : Nat) : Int) = z) ↔ Maps.has D (.int .i64 z) = true) (fun _ => True) (Maps.size D) w := fun l J Jx W hW hJ hJx hY h0 => by
  have hown' : W.ownsMap Tryz.prog 80 (unitElem (H := Unit)) b nn D := by
    have hbl := hown.lt
    obtain ⟨es, clock, hb, Ft, hs, hD⟩ := hown
    exact ⟨es, clock, (hW.block b hbl).trans hb, Ft, hs, hD⟩
  have hm' : W.cell? ⟨Bm, 0, none⟩ = some (.map (some b)) := (hW.cell (p := ⟨Bm, 0, none⟩) hBm).trans hm
  clear hm hown
  refine callsIn_of_wp Tryz.func143 rfl trivial ?_ rfl
  simp only [Tryz.ntmps143, List.size_toArray, List.length_cons, List.length_nil, Nat.reduceAdd, Nat.reduceSub, Array.replicate_succ, Array.replicate_zero, List.push_toArray, List.append_toArray, List.nil_append, List.cons_append]
  gi_wp2_with (first
    | (gi_at_range; refine wpListIn_range_own _ rfl _ 75 rfl 80 150 ref_keyed Tryz.underlying75 _ b nn _ rfl hown' ?_; intro w0 hrg0 hg0 hs0)
    | gi_in)
  go_frame
  gi_loopw [3] (fun _ wr => ∃ (left : Lit → Bool) (cnt : Nat) (ss : List (RefT G)), wr.ranges Tryz.prog 80 (unitElem (H := Unit)) b W.heap.size nn D left cnt ∧ ss.length + cnt ≤ Maps.size D ∧ CameK D left ss ∧ J ss wr)
    (fun _ wr => wr.rangeLeft b W.heap.size)
  case atStart =>
    exact ⟨_, _, [], hrg0, by simp, CameK.start D, hJ [] W w0 none h0 hg0 (fun r e => by cases e)⟩
  case round =>
    obtain ⟨left, cnt, ss, hrg, hcs, hC, hJs⟩ := hrel
    gi_wp2_with (first
      | (gi_at_next; refine wpListIn_next_ranges _ rfl _ rfl 80 ref_keyed (unitElem (H := Unit)) (fun z : Int => Value.int .i64 z) id (fun key kl hk => by obtain ⟨x, hx, _⟩ := keyOf_ref_inv hk; exact ⟨x, hx⟩) (fun v _ _ => ⟨v, rfl⟩) b W.heap.size nn _ _ _ rfl hrg ?_ ?_)
      | gi_in)
    · intro hc0 hl0
      gi_wp2
      go_end0
      exact ⟨⟨_, rfl⟩, .inl ⟨ss, fun z => by rw [hC z, hl0]; simp, hJs⟩⟩
    · intro x c kl yd yp w2 cnt2 hkey hlk hv hat hrg2 hlt hg2 hs2 hen
      obtain ⟨x', ex, rfl⟩ := keyOf_ref_inv hkey
      obtain rfl : x = x' := by simpa using ex
      have hhas : Maps.has D (.int .i64 x) = true := Maps.has_true_of_atKey hat
      obtain ⟨r, rfl, hr1, hr2⟩ := hok x hhas
      have hJ2 : J ss w2 := hJ ss wr w2 (some W.heap.size) hJs hg2 (fun r e => by cases e; exact ⟨Nat.le_refl _, hrg.iter_walk⟩)
      obtain ⟨fn, tmps, assign, body, hy, hR⟩ := hY ss ⟨r, hr1, hr2⟩ w2 hJ2 (by omega)
      simp only [encR] at hy
      have hC2 := hC.step ⟨r, hr1, hr2⟩ hhas
      have HC : Hid _ := hC2
      clear hs2 hC2 hC
      gi_wp2
      refine hR.mono ?_
      rintro e W3 (⟨rfl, hJ3, hk3⟩ | ⟨rfl, hJx3⟩)
      · gi_wp2
        have hrg3 := hrg2.of_walks hk3
        go_roundw
        case rel => exact ⟨_, cnt2, ss ++ [(⟨r, hr1, hr2⟩ : RefT G)], hrg3, by simp; omega, HC.out, hJ3⟩
        case measure => rw [hrg3.left_eq, hrg.left_eq]; exact hlt
      · gi_wp2
        refine bodyPost_ret (results_none rfl _ _ _) rfl ?_
        exact ⟨⟨_, rfl⟩, .inr ⟨_, trivial, hJx3⟩⟩

end Go.Proofs.YtebfmcafmojlaaaGreatDoor

/-
  graph: Count.
-/
namespace Go.Proofs.YtebfmcafmojlaaaGreatDoor
open Go.RowKit Go.Maps
set_option linter.unusedSimpArgs false
set_option linter.unusedVariables false

def marksTo (A : List Bool) (k : Nat) : List Nat := (List.range k).filter (fun i => A.getD i false)
theorem marksTo_succ (A : List Bool) (k : Nat) : (marksTo A (k + 1)).length = (marksTo A k).length + (if A.getD k false then 1 else 0) := by
  unfold marksTo
  rw [List.range_succ, List.filter_append, List.length_append]
  rw [List.filter_cons, List.filter_nil]
  cases h : A.getD k false
  · rw [if_neg (by simp)]; simp
  · rw [if_pos rfl]; simp

theorem marksTo_le (A : List Bool) (k : Nat) : (marksTo A k).length ≤ k := by
  have := List.length_filter_le (fun i => A.getD i false) (List.range k)
  simpa [marksTo] using this

theorem mem_marks {A : List Bool} {i : Nat} : i ∈ marksTo A A.length ↔ isM A i := by
  unfold marksTo isM
  rw [List.mem_filter, List.mem_range]
  constructor
  · exact fun h => h.2
  · intro h
    refine ⟨?_, h⟩
    apply Nat.lt_of_not_le
    intro hle
    rw [List.getD_eq_getElem?_getD, List.getElem?_eq_none hle] at h
    cases h

def CountPost (w : World) (S : GrS) (Sx : List (RefT S.g) → Prop) (e : Ending) (w' : World) : Prop := ∃ xs A, Sx xs ∧ MarkedAll S.g A xs ∧ e = .returned (.int .i64 ((marksTo A A.length).length : Nat)) ∧ Below w.heap.size w w'

set_option maxHeartbeats 400000 in
set_option maxRecDepth 10000 in
theorem graphCount_is {O : Nat → Prop} {w : World} {gb : Nat} {S : GrS} {itv : Value} {Sx : List (RefT S.g) → Prop} (hreach : Calls Tryz.prog 128 #[.pointer (some ⟨gb, 0, none⟩), itv] w (ReachPost O w gb S Sx)) :
    Calls Tryz.prog 70 #[.pointer (some ⟨gb, 0, none⟩), itv] w (CountPost w S Sx) := by
  go_enter Tryz.func70, Tryz.ntmps70
  go_wp2_with (go_at_call 128; refine hreach.mono ?_; clear hreach; rintro e w1 ⟨xs, A, rb, hS, rfl, hM, hrb, hb, hall⟩)
  have hcx : ∀ i, i < A.length → w1.cell? ⟨rb, i, none⟩ = some (.bool (A.getD i false)) := fun i hi => hM.cell hi
  have hlen : A.length ≤ 100000 := by
    rw [hM.len]
    obtain ⟨_, _, _, _, _, _, _, hA⟩ := hM.G
    exact hA.nlen
  have HF : Hid (CountPost w S Sx (.returned (.int .i64 ((marksTo A A.length).length : Nat))) w1) := ⟨xs, A, hS, hall, rfl, hb⟩
  clear hM hS hall hb hrb
  go_loop [5, 12] (fun c i => ∃ k : Nat, k ≤ A.length ∧ i = .int .i64 k ∧ c = .int .i64 ((marksTo A k).length : Nat)) (fun _ i => A.length - (intOf i).toNat)
  case atStart => exact ⟨0, Nat.zero_le _, rfl, rfl⟩
  case round =>
    obtain ⟨k, hk, rfl, rfl⟩ := hrel
    by_cases hlt : k < A.length
    · have hcell := hcx k hlt
      have hsu := marksTo_succ A k
      have hle := marksTo_le A k
      cases hv : A.getD k false
      · rw [hv] at hcell hsu
        have HS : Hid _ := hsu
        clear hcx hsu hv
        go_wp2
        go_round
        case rel => exact ⟨k + 1, by omega, by go_num, by rw [HS.out]; simp⟩
        case measure => simp [intOf]; omega
      · rw [hv] at hcell hsu
        have HS : Hid _ := hsu
        clear hcx hsu hv
        obtain ⟨m, hm⟩ : ∃ m, m = (marksTo A k).length := ⟨_, rfl⟩
        rw [← hm] at hle ⊢
        have HM : Hid (m = (marksTo A k).length) := hm
        clear hm
        go_wp2
        go_round
        case rel => exact ⟨k + 1, by omega, by go_num, by rw [HS.out, ← HM.out]; go_num⟩
        case measure => simp [intOf]; omega
    · have hk' : k = A.length := by omega
      subst hk'
      clear hcx
      go_wp2
      go_ret
      exact HF.out

end Go.Proofs.YtebfmcafmojlaaaGreatDoor

/-
  graph: Sweep: one number that is given back, in memory.
-/
namespace Go.Proofs.YtebfmcafmojlaaaGreatDoor
open Go.RowKit Go.Maps
set_option linter.unusedSimpArgs false
set_option linter.unusedVariables false

def ndZ : Option Nd → Nd
  | none => ⟨0, 0, 0⟩
  | some n => n

theorem ndCells_z (o : Option Nd) : ndCells o = [.int .i64 ((ndZ o).v : Nat), .int .i64 ((ndZ o).t : Nat), .int .i64 ((ndZ o).e : Nat)] := by cases o <;> rfl

theorem flat3_unset (l : List (Option Nd)) (i : Nat) (hi : i < l.length) : (((l.flatMap ndCells).set (i * 3) (.int .i64 (0 : Nat))).set (i * 3 + 1) (.int .i64 (0 : Nat))).set (i * 3 + 2) (.int .i64 (0 : Nat)) = (l.set i none).flatMap ndCells := by
  induction l generalizing i with
  | nil => simp at hi
  | cons a l ih =>
    cases i with
    | zero =>
      have : ∃ x y z, ndCells a = [x, y, z] := by cases a <;> exact ⟨_, _, _, rfl⟩
      obtain ⟨x, y, z, e⟩ := this
      rw [List.set_cons_zero, List.flatMap_cons, List.flatMap_cons, e]
      rfl
    | succ i =>
      have hl := ndCells_len a
      rw [List.flatMap_cons, List.set_cons_succ, List.flatMap_cons, ← ih i (by simpa using hi)]
      rw [List.set_append_right _ _ (by omega), List.set_append_right _ _ (by omega), List.set_append_right _ _ (by omega), hl]
      have e1 : (i + 1) * 3 - 3 = i * 3 := by omega
      have e2 : (i + 1) * 3 + 1 - 3 = i * 3 + 1 := by omega
      have e3 : (i + 1) * 3 + 2 - 3 = i * 3 + 2 := by omega
      rw [e1, e2, e3]

/-- S without the number j. -/
def GrS.drop (S : GrS) (j : Nat) : GrS := { S with nl := S.nl.set j none, free := S.free ++ [j] }

theorem GrS.drop_node {S : GrS} {j : Nat} (i : Nat) : (S.drop j).g.node i = if i = j then none else S.g.node i := by
  show (S.nl.set j none).getD i none = if i = j then none else S.nl.getD i none
  rw [List.getD_eq_getElem?_getD, List.getD_eq_getElem?_getD, List.getElem?_set]
  by_cases e : j = i
  · subst e
    simp only [if_true]
    split <;> simp
  · have : ¬ i = j := fun e' => e e'.symm
    simp [e, this]

theorem GrAt.drop {O : Nat → Prop} {w w1 w2 w3 w4 : World} {gb : Nat} {S : GrS} {ov nv fv : Value} {mb rb : Nat} {M M1 : List (Value × Value)} (h : GrAt O w gb S ov nv fv mb rb M []) (hne : ∀ {i n}, S.g.node i = some n → n.t ≠ n.e) (hinj : ∀ {i j n}, S.g.node i = some n → S.g.node j = some n → i = j)
    {j nb ncap : Nat} (hj0 : 0 < j) (hj : j < S.nl.length) (hjf : j ∉ S.free) (en : nv = .slice (some ⟨nb, 0, none⟩) S.nl.length ncap)
    (a1 : MapIs Tryz.prog 214 w1 mb M1) (t1 : MapTurn w w1 mb) (q1 : ∀ p, p ∈ M1 ↔ p ∈ M ∧ p.1 ≠ ndKey (ndZ (S.nl.getD j none)))
    (e2 : w2 = ((w1.setCell ⟨nb, j * 3, none⟩ (.int .i64 (0 : Nat))).setCell ⟨nb, j * 3 + 1, none⟩ (.int .i64 (0 : Nat))).setCell ⟨nb, j * 3 + 2, none⟩ (.int .i64 (0 : Nat)))
    {o : Obj} {v' : Value} (hown : w3.ownsRow 0 3 1 v' (S.free.length + 1) (S.free.map natv ++ [natv j])) (hg3 : (w2.alloc o).grownBy w3 fv.ownBlock) (hpl : Placed (w2.alloc o) fv v') (e4 : w4 = w3.setCell ⟨gb, 3, none⟩ v') :
    Only O w w4 ∧ Grows w O (fun b => O b ∨ v'.ownBlock = some b) ∧ GrAt (fun b => O b ∨ v'.ownBlock = some b) w4 gb (S.drop j) ov nv v' mb rb M1 [] := by
  obtain ⟨nb', ncap', ncur, en', hnb, hob, hngb, hncap, hncm, hncs, hntk⟩ := h.nodesBlock
  rw [en] at en'
  simp only [Value.slice.injEq, Option.some.injEq, Addr.mk.injEq, and_true, true_and] at en'
  obtain ⟨rfl, rfl⟩ := en'
  have hmaps := h.maps_ne
  have hgl := h.lt gb h.self
  have hnbl : nb < w.heap.size := (Array.getElem?_eq_some_iff.1 hnb).1
  have hs1 := t1.2
  have b1 : ∀ b, b < w.heap.size → b ≠ mb → w1.heap[b]? = w.heap[b]? := fun b hb hne => t1.1.block b hb (by simp; exact hne)
  have s2 : w2.heap.size = w1.heap.size := by rw [e2]; simp [World.setCell]
  have b2 : ∀ b, b ≠ nb → w2.heap[b]? = w1.heap[b]? := by
    intro b hb
    rw [e2, Below.heap_setCell _ _ _ _ hb, Below.heap_setCell _ _ _ _ hb, Below.heap_setCell _ _ _ _ hb]
  have hsa : (w2.alloc o).heap.size = w2.heap.size + 1 := by simp
  have b3 : ∀ b, b < w.heap.size → fv.ownBlock ≠ some b → w3.heap[b]? = w2.heap[b]? := by
    intro b hb hne
    rw [hg3.block b (by omega) (fun e => hne e.symm)]
    exact ((Below.refl w2.heap.size w2).alloc (Nat.le_refl _) o).block b (by omega)
  have s3 : w.heap.size ≤ w3.heap.size := by have := hg3.size; omega
  have s4 : w4.heap.size = w3.heap.size := by rw [e4]; simp [World.setCell]
  have b4 : ∀ b, b ≠ gb → w4.heap[b]? = w3.heap[b]? := fun b hb => by rw [e4, Below.heap_setCell _ _ _ _ hb]
  have hfblk : ∀ b, fv.ownBlock = some b → O b ∧ b < w.heap.size ∧ b ≠ gb ∧ b ≠ nb ∧ b ≠ mb ∧ b ≠ rb := by
    intro b hb
    obtain ⟨cur, hc⟩ := h.free.block hb
    refine ⟨h.free.2 b hb, (Array.getElem?_eq_some_iff.1 hc).1, ?_, ?_, (hmaps b _ _ _ hc).1, (hmaps b _ _ _ hc).2⟩
    · intro e; subst e; have := h.cells; rw [hc] at this; simp at this
    · intro e; subst e; rw [hc] at hnb; simp at hnb
  have hgf : fv.ownBlock ≠ some gb := fun e => (hfblk gb e).2.2.1 rfl
  have hnf : fv.ownBlock ≠ some nb := fun e => (hfblk nb e).2.2.2.1 rfl
  have hmf : fv.ownBlock ≠ some mb := fun e => (hfblk mb e).2.2.2.2.1 rfl
  have hrf : fv.ownBlock ≠ some rb := fun e => (hfblk rb e).2.2.2.2.2 rfl
  have hmlt := h.lt mb h.om
  have hrlt := h.lt rb h.orr
  have hmg : mb ≠ gb := (hmaps gb _ _ _ h.cells).1.symm
  have hrg : rb ≠ gb := (hmaps gb _ _ _ h.cells).2.symm
  have hmn : mb ≠ nb := (hmaps nb _ _ _ hnb).1.symm
  have hrn : rb ≠ nb := (hmaps nb _ _ _ hnb).2.symm
  have hv'new : ∀ b, v'.ownBlock = some b → fv.ownBlock = some b ∨ w.heap.size ≤ b := by
    intro b hb
    rcases hpl b hb with e | e
    · exact .inl e
    · exact .inr (by omega)
  have hv'ne : ∀ b, v'.ownBlock = some b → b ≠ gb ∧ b ≠ mb ∧ b < w3.heap.size := by
    intro b hb
    obtain ⟨cur, hc⟩ := row_block hown hb
    refine ⟨?_, ?_, (Array.getElem?_eq_some_iff.1 hc).1⟩
    · rcases hv'new b hb with e | e
      · exact (hfblk b e).2.2.1
      · omega
    · rcases hv'new b hb with e | e
      · exact (hfblk b e).2.2.2.2.1
      · omega
  have hon : Only O w w4 := by
    have o1 : Only O w w1 := t1.only h.om
    have o2 : Only O w w2 := by
      rw [e2]
      exact ((o1.setCell (p := ⟨nb, j * 3, none⟩) (.inl hob) _).setCell (p := ⟨nb, j * 3 + 1, none⟩) (.inl hob) _).setCell (p := ⟨nb, j * 3 + 2, none⟩) (.inl hob) _
    have o3 : Only O w w3 := (o2.alloc o).grown hg3 (fun k hk => .inl (hfblk k hk).1)
    rw [e4]
    exact o3.setCell (p := ⟨gb, 3, none⟩) (.inl h.self) _
  have hov : ∀ b, ov.ownBlock = some b → b < w.heap.size ∧ b ≠ nb ∧ b ≠ gb ∧ b ≠ mb ∧ fv.ownBlock ≠ some b := by
    intro b hb
    obtain ⟨cur, hc⟩ := h.order.block hb
    refine ⟨(Array.getElem?_eq_some_iff.1 hc).1, ?_, ?_, (hmaps b _ _ _ hc).1, ?_⟩
    · intro e; subst e; rw [hc] at hnb; simp at hnb
    · intro e; subst e; have := h.cells; rw [hc] at this; simp at this
    · intro e
      rcases h.of with e' | e'
      · rw [hb] at e'; cases e'
      · exact e' (hb.trans e.symm)
  have hnode := GrS.drop_node (S := S) (j := j)
  refine ⟨hon, ?_, ?_⟩
  · rintro b (hb | hb)
    · exact .inl hb
    · rcases hv'new b hb with e | e
      · exact .inl (hfblk b e).1
      · exact .inr e
  refine { lt := ?_, eov := h.eov, self := .inl h.self, om := .inl h.om, orr := .inl h.orr, cells := ?_, order := ?_, nodes := ?_, nin := fun k hk => .inl (h.nin k hk), free := ?_, nums := ?_, res := ?_, mok := ?_, rok := by simp, rlen := by simp, mr := h.mr, of := ?_, n1 := ?_, nlen := ?_, ol := h.ol, fdup := ?_, fok := ?_ }
  · rintro b (hb | hb)
    · exact Nat.lt_of_lt_of_le (h.lt b hb) hon.size
    · have := (hv'ne b hb).2.2; omega
  · have hc3 : w3.heap[gb]? = some (.cells #[ov, nv, .map (some mb), fv, .map (some rb)] 156 (0, 0)) := by
      rw [b3 gb hgl hgf, b2 gb hngb.symm, b1 gb hgl hmg.symm]; exact h.cells
    rw [e4, heap_setCell_at hc3]
    rfl
  · refine (h.order.mono (O' := fun b => O b ∨ v'.ownBlock = some b) (fun b hb => .inl hb)).same ?_
    intro b hb
    obtain ⟨c1, c2, c3, c4, c5⟩ := hov b hb
    rw [b4 b c3, b3 b c1 c5, b2 b c2, b1 b c1 c4]
  · show w4.ownsRow 0 214 3 nv (S.nl.set j none).length ((S.nl.set j none).flatMap ndCells)
    rw [List.length_set, en]
    have hnc : w4.heap[nb]? = some (.cells (((ncur.setIfInBounds (j * 3) (.int .i64 (0 : Nat))).setIfInBounds (j * 3 + 1) (.int .i64 (0 : Nat))).setIfInBounds (j * 3 + 2) (.int .i64 (0 : Nat))) 214 (0, 0)) := by
      rw [b4 nb hngb, b3 nb hnbl hnf, e2]
      exact heap_setCell_at (heap_setCell_at (heap_setCell_at ((b1 nb hnbl hmn.symm).trans hnb)))
    refine ⟨by rw [flat3_len, List.length_set], .inr ⟨nb, ncap, _, rfl, Nat.zero_le _, hnc, hncap, hncm, by simpa using hncs, ?_⟩⟩
    rw [← flat3_unset _ _ hj, ← hntk]
    simp only [Array.toList_setIfInBounds]
    rw [List.take_set, List.take_set, List.take_set]
  · refine ⟨?_, fun b hb => .inr hb⟩
    show w4.ownsRow 0 3 1 v' ((S.free ++ [j]).map natv).length ((S.free ++ [j]).map natv)
    rw [List.length_map, List.length_append, List.length_singleton, List.map_append]
    exact owns_same hown (fun b hb => b4 b (hv'ne b hb).1)
  · refine a1.same ?_
    rw [b4 mb hmg, b3 mb hmlt hmf, b2 mb hmn]
  · refine h.res.same ?_
    rw [b4 rb hrg, b3 rb hrlt hrf, b2 rb hrn, b1 rb hrlt h.mr.symm]
  · intro p
    rw [q1, h.mok]
    constructor
    · rintro ⟨⟨i, n, hn, rfl⟩, hk⟩
      refine ⟨i, n, ?_, rfl⟩
      rw [hnode, if_neg]
      · exact hn
      · intro e
        subst e
        have hn' : S.nl.getD i none = some n := hn
        rw [hn'] at hk
        exact hk rfl
    · rintro ⟨i, n, hn, rfl⟩
      rw [hnode] at hn
      split at hn
      · cases hn
      · rename_i hij
        refine ⟨⟨i, n, hn, rfl⟩, ?_⟩
        intro e
        have e' := ndKey_inj e
        cases hz : S.nl.getD j none with
        | none =>
          rw [hz] at e'
          have := hne hn
          rw [e'] at this
          exact this rfl
        | some m =>
          rw [hz] at e'
          simp only [ndZ] at e'
          subst e'
          exact hij (hinj hn hz)
  · rcases h.of with e | e
    · exact .inl e
    · cases ho : ov.ownBlock with
      | none => exact .inl rfl
      | some b =>
        right
        intro e'
        rcases hv'new b e'.symm with e2 | e2
        · exact e (ho.trans e2.symm)
        · have := (hov b ho).1; omega
  · show 1 ≤ (S.nl.set j none).length
    rw [List.length_set]; exact h.n1
  · show (S.nl.set j none).length ≤ 100000
    rw [List.length_set]; exact h.nlen
  · show (S.free ++ [j]).Nodup
    rw [List.nodup_append]
    refine ⟨h.fdup, by simp, ?_⟩
    intro a ha b hb
    simp at hb
    subst hb
    intro e
    subst e
    exact hjf ha
  · intro i hi
    show 0 < i ∧ i < (S.nl.set j none).length ∧ (S.drop j).g.node i = none
    rw [List.length_set, hnode]
    rcases List.mem_append.1 (show i ∈ S.free ++ [j] from hi) with e | e
    · obtain ⟨c1, c2, c3⟩ := h.fok i e
      exact ⟨c1, c2, by split; rfl; exact c3⟩
    · simp at e
      subst e
      exact ⟨hj0, hj, by rw [if_pos rfl]⟩

end Go.Proofs.YtebfmcafmojlaaaGreatDoor

/-
  graph: Sweep: the rounds.
-/
namespace Go.Proofs.YtebfmcafmojlaaaGreatDoor
open Go.RowKit Go.Maps
set_option linter.unusedSimpArgs false
set_option linter.unusedVariables false

theorem Tryz.infoIntP : (Tryz.prog.info? 3).map (fun i => (i.zero, i.size, i.bytes)) = some (some (.int .i64 0), 1, 8) := by kernel_rfl

/-- delete by what its run is, as one step of a region that draws. -/
theorem step_delete_run {P : Program} {ops : Array Oper} {o : Oper} {a : Act} {w : World} {K : Act → World → Prop} {Q : Exit → Act → World → Prop} {E : Prop}
    (hg : o.guard = none) (m x : Operand) (t k : TypeId) (ho : o.op = Op.call { callee := Callee.builtin Builtin.delete, args := #[m, x], argTypes := #[t, k] })
    {mv xv v' : Value} {w' : World} (hrun : (Builtin.delete_ #[t, k] o.type #[mv, xv]).run P w = .ok v' w') (hm : a.eval m = mv) (hx : a.eval x = xv) (hK : K (a.put o.dst v') w') :
    if Region.wanted o (yielded ops a.tmps) = true then Oper.wp P o a w K Q else E := by
  have hw : Region.wanted o (yielded ops a.tmps) = true := by simp [Region.wanted, hg]
  rw [if_pos hw]
  unfold Oper.wp execOp
  simp only [ho, resolve, invoke, builtin, Sem.run_bind, Sem.run_pure, Result.andThen_ok, List.map_toArray, List.map_cons, List.map_nil, hm, hx, hrun]
  exact hK

/-- After m rounds: the numbers from the last one down have been looked at. -/
def sweepS (S : GrS) (A : List Bool) : Nat → GrS
  | 0 => S
  | m + 1 => if A.getD (S.nl.length - 1 - m) false then sweepS S A m else (sweepS S A m).drop (S.nl.length - 1 - m)

theorem sweepS_len (S : GrS) (A : List Bool) (m : Nat) : (sweepS S A m).nl.length = S.nl.length := by
  induction m with
  | zero => rfl
  | succ m ih =>
    unfold sweepS
    split
    · exact ih
    · show ((sweepS S A m).nl.set _ none).length = _
      rw [List.length_set]; exact ih

theorem sweepS_order (S : GrS) (A : List Bool) (m : Nat) : (sweepS S A m).order = S.order ∧ (sweepS S A m).sem = S.sem ∧ (sweepS S A m).ov = S.ov := by
  induction m with
  | zero => exact ⟨rfl, rfl, rfl⟩
  | succ m ih =>
    unfold sweepS
    split
    · exact ih
    · exact ih

theorem sweepS_node (S : GrS) (A : List Bool) (m i : Nat) (hm : m < S.nl.length) : (sweepS S A m).g.node i = if S.nl.length - 1 - m < i ∧ A.getD i false = false then none else S.g.node i := by
  induction m with
  | zero =>
    show S.g.node i = _
    split
    · rename_i h
      have : S.nl.getD i none = none := by rw [List.getD_eq_getElem?_getD, List.getElem?_eq_none (by omega)]; rfl
      exact this
    · rfl
  | succ m ih =>
    have ih' := ih (by omega)
    unfold sweepS
    cases ha : A.getD (S.nl.length - 1 - m) false
    · rw [if_neg (by simp), GrS.drop_node, ih']
      by_cases e : i = S.nl.length - 1 - m
      · rw [if_pos e, if_pos ⟨by omega, by rw [e]; exact ha⟩]
      · rw [if_neg e]
        by_cases c : S.nl.length - 1 - m < i ∧ A.getD i false = false
        · rw [if_pos c, if_pos ⟨by omega, c.2⟩]
        · rw [if_neg c, if_neg]
          rintro ⟨c1, c2⟩
          exact c ⟨by omega, c2⟩
    · rw [if_pos rfl, ih']
      by_cases c : S.nl.length - 1 - m < i ∧ A.getD i false = false
      · rw [if_pos c, if_pos ⟨by omega, c.2⟩]
      · rw [if_neg c, if_neg]
        rintro ⟨c1, c2⟩
        by_cases e : i = S.nl.length - 1 - m
        · rw [e, ha] at c2; cases c2
        · exact c ⟨by omega, c2⟩

theorem sweepS_free (S : GrS) (A : List Bool) (m i : Nat) (hm : m < S.nl.length) (h0 : S.free = []) : i ∈ (sweepS S A m).free ↔ S.nl.length - 1 - m < i ∧ i < S.nl.length ∧ A.getD i false = false := by
  induction m with
  | zero =>
    show i ∈ S.free ↔ _
    rw [h0]
    constructor
    · intro h; simp at h
    · rintro ⟨h1, h2, _⟩; omega
  | succ m ih =>
    have ih' := ih (by omega)
    unfold sweepS
    cases ha : A.getD (S.nl.length - 1 - m) false
    · rw [if_neg (by simp)]
      show i ∈ (sweepS S A m).free ++ [S.nl.length - 1 - m] ↔ _
      rw [List.mem_append, ih', List.mem_singleton]
      constructor
      · rintro (⟨a, b, c⟩ | e)
        · exact ⟨by omega, b, c⟩
        · exact ⟨by omega, by omega, by rw [e]; exact ha⟩
      · rintro ⟨a, b, c⟩
        by_cases e : i = S.nl.length - 1 - m
        · exact .inr e
        · exact .inl ⟨by omega, b, c⟩
    · rw [if_pos rfl, ih']
      constructor
      · rintro ⟨a, b, c⟩; exact ⟨by omega, b, c⟩
      · rintro ⟨a, b, c⟩
        refine ⟨?_, b, c⟩
        by_cases e : i = S.nl.length - 1 - m
        · rw [e, ha] at c; cases c
        · omega

/-- The graph in the midst of a sweep. -/
structure SweepAt (O : Nat → Prop) (w : World) (gb : Nat) (S : GrS) (ov nv : Value) (mb rb : Nat) (A : List Bool) (kb : Nat) (m : Nat) (wr : World) : Prop where
  it : ∃ O' fv' M', GrAt O' wr gb (sweepS S A m) ov nv fv' mb rb M' [] ∧ Only O w wr ∧ Grows w O O' ∧ ¬ O' kb
  row : wr.ownsRow 0 4 1 (.slice (some ⟨kb, 0, none⟩) A.length A.length) A.length (A.map Value.bool)

end Go.Proofs.YtebfmcafmojlaaaGreatDoor

/-
  graph: Sweep: a round, and the whole.
-/
namespace Go.Proofs.YtebfmcafmojlaaaGreatDoor
open Go.RowKit Go.Maps
set_option linter.unusedSimpArgs false
set_option linter.unusedVariables false

theorem GrAt.freeVal {O : Nat → Prop} {w : World} {gb : Nat} {S : GrS} {ov nv fv : Value} {mb rb : Nat} {M R : List (Value × Value)} (h : GrAt O w gb S ov nv fv mb rb M R) : ∃ ao cap, fv = .slice ao S.free.length cap := by
  obtain ⟨ao, cap, e⟩ := owns_form h.free.1
  rw [List.length_map] at e
  exact ⟨ao, cap, e⟩

theorem GrAt.keyAt {O : Nat → Prop} {w : World} {gb : Nat} {S : GrS} {ov nv fv : Value} {mb rb : Nat} {M R : List (Value × Value)} (h : GrAt O w gb S ov nv fv mb rb M R) (j : Nat) : KeyOk Tryz.prog 214 (ndKey (ndZ (S.nl.getD j none))) := by
  cases hz : S.nl.getD j none with
  | none =>
    have h0 : 0 < refMax := by unfold refMax; omega
    have := node_key_ok 0 0 0 h0 h0 h0
    exact this
  | some n =>
    have hm : (ndKey n, natv j) ∈ M := (h.mok _).2 ⟨j, n, hz, rfl⟩
    have := h.nums.keys (ndKey n, natv j) hm
    exact this

/-- One number given back: what the three statements leave. -/
theorem SweepAt.next {O : Nat → Prop} {w : World} {gb : Nat} {S : GrS} {ov nv : Value} {mb rb : Nat} {A : List Bool} {kb m : Nat} {wr : World} (h : SweepAt O w gb S ov nv mb rb A kb m wr) (hr : A.getD (S.nl.length - 1 - m) false = true) : SweepAt O w gb S ov nv mb rb A kb (m + 1) wr := by
  obtain ⟨⟨O', fv', M', h1, h2, h3, h4⟩, h5⟩ := h
  refine ⟨⟨O', fv', M', ?_, h2, h3, h4⟩, h5⟩
  unfold sweepS
  rw [if_pos hr]
  exact h1

theorem SweepAt.dropped {O O' : Nat → Prop} {w : World} {gb : Nat} {S : GrS} {ov nv fv' : Value} {mb rb : Nat} {A : List Bool} {kb m : Nat} {wr : World} {M' : List (Value × Value)} (h1 : GrAt O' wr gb (sweepS S A m) ov nv fv' mb rb M' []) (h2 : Only O w wr) (h3 : Grows w O O') (h4 : ¬ O' kb)
    (h5 : wr.ownsRow 0 4 1 (.slice (some ⟨kb, 0, none⟩) A.length A.length) A.length (A.map Value.bool)) (k : S.g.Ok) (hm : m + 1 < S.nl.length) (hr : A.getD (S.nl.length - 1 - m) false = false) (hf0 : S.free = [])
    {w1 w2 w3 w4 : World} {M1 : List (Value × Value)} {nb ncap : Nat} (en : nv = .slice (some ⟨nb, 0, none⟩) S.nl.length ncap)
    (a1 : MapIs Tryz.prog 214 w1 mb M1) (t1 : MapTurn wr w1 mb) (q1 : ∀ p, p ∈ M1 ↔ p ∈ M' ∧ p.1 ≠ ndKey (ndZ ((sweepS S A m).nl.getD (S.nl.length - 1 - m) none)))
    (e2 : w2 = ((w1.setCell ⟨nb, (S.nl.length - 1 - m) * 3, none⟩ (.int .i64 (0 : Nat))).setCell ⟨nb, (S.nl.length - 1 - m) * 3 + 1, none⟩ (.int .i64 (0 : Nat))).setCell ⟨nb, (S.nl.length - 1 - m) * 3 + 2, none⟩ (.int .i64 (0 : Nat)))
    {o : Obj} {v' : Value} (hown : w3.ownsRow 0 3 1 v' ((sweepS S A m).free.length + 1) ((sweepS S A m).free.map natv ++ [natv (S.nl.length - 1 - m)])) (hg3 : (w2.alloc o).grownBy w3 fv'.ownBlock) (hpl : Placed (w2.alloc o) fv' v') (e4 : w4 = w3.setCell ⟨gb, 3, none⟩ v') :
    SweepAt O w gb S ov nv mb rb A kb (m + 1) w4 := by
  have hnode := fun i => sweepS_node S A m i (by omega)
  have hinh : ∀ {i n}, (sweepS S A m).g.node i = some n → S.g.node i = some n := by
    intro i n hn
    rw [hnode] at hn
    split at hn
    · cases hn
    · exact hn
  have hlen := sweepS_len S A m
  obtain ⟨ho, hg, hA⟩ := h1.drop (fun hn => k.ne (hinh hn)) (fun hn hn' => k.inj (hinh hn) (hinh hn')) (j := S.nl.length - 1 - m) (by omega) (by rw [hlen]; omega) (fun hi => by have := (sweepS_free S A m _ (by omega) hf0).1 hi; omega) (by rw [hlen]; exact en) a1 t1 q1 e2 hown hg3 hpl e4
  obtain ⟨cur, hkc⟩ := row_block h5 (b := kb) rfl
  have hkl := (Array.getElem?_eq_some_iff.1 hkc).1
  refine ⟨⟨_, v', M1, ?_, h2.trans ho h3, h3.trans hg h2.size, ?_⟩, owns_same h5 (fun b hb => ?_)⟩
  · have e : sweepS S A (m + 1) = (sweepS S A m).drop (S.nl.length - 1 - m) := by
      show (if A.getD (S.nl.length - 1 - m) false then _ else _) = _
      rw [if_neg (by rw [hr]; simp)]
    rw [e]
    exact hA
  · intro hk
    rcases hg kb hk with e | e
    · exact h4 e
    · omega
  · simp [Value.ownBlock] at hb
    subst hb
    exact ho.block _ hkl h4

end Go.Proofs.YtebfmcafmojlaaaGreatDoor

/-
  graph: Sweep whole.
-/
namespace Go.Proofs.YtebfmcafmojlaaaGreatDoor
open Go.RowKit Go.Maps
set_option linter.unusedSimpArgs false
set_option linter.unusedVariables false

/-- What Sweep leaves. -/
structure GrS.Swept (S S' : GrS) (A : List Bool) : Prop where
  order : S'.order = S.order
  sem : S'.sem = S.sem
  ov : S'.ov = S.ov
  len : S'.nl.length = S.nl.length
  kept : ∀ i, isM A i → S'.g.node i = S.g.node i
  gone : ∀ i, ¬ isM A i → S'.g.node i = none
  full : S'.Full

def SweepPost (O : Nat → Prop) (w : World) (gb : Nat) (S : GrS) (Sx : List (RefT S.g) → Prop) (e : Ending) (w' : World) : Prop :=
  e = .returned (.tuple #[]) ∧ ∃ xs A S', Sx xs ∧ MarkedAll S.g A xs ∧ S.Swept S' A ∧ GrStep O w gb w' S'

theorem swept_of {S : GrS} {A : List Bool} (k : S.g.Ok) (hA : A.length = S.nl.length) (hn : 1 ≤ S.nl.length) (h0 : S.free = []) {xs : List (RefT S.g)} (hall : MarkedAll S.g A xs) : S.Swept (sweepS S A (S.nl.length - 1)) A := by
  obtain ⟨e1, e2, e3⟩ := sweepS_order S A (S.nl.length - 1)
  have hz : S.nl.length - 1 - (S.nl.length - 1) = 0 := by omega
  have hkept : ∀ i, isM A i → (sweepS S A (S.nl.length - 1)).g.node i = S.g.node i := by
    intro i c
    rw [sweepS_node S A _ i (by omega), hz, if_neg]
    rintro ⟨_, h⟩
    unfold isM at c
    rw [c] at h; cases h
  have hgone : ∀ i, ¬ isM A i → (sweepS S A (S.nl.length - 1)).g.node i = none := by
    intro i c
    rw [sweepS_node S A _ i (by omega), hz]
    by_cases hi : 0 < i
    · rw [if_pos ⟨hi, by unfold isM at c; simpa using c⟩]
    · have : i = 0 := by omega
      subst this
      rw [if_neg (by omega)]
      exact k.zero
  refine ⟨e1, e2, e3, sweepS_len S A _, hkept, hgone, ?_⟩
  intro i h1 h2 h3
  rw [sweepS_free S A _ i (by omega) h0]
  rw [sweepS_len] at h2
  refine ⟨by omega, h2, ?_⟩
  cases c : A.getD i false
  · rfl
  · have c' : isM A i := c
    rw [hkept i c'] at h3
    obtain ⟨n, hn', _⟩ := hall.kids i c'
    rw [hn'] at h3; cases h3

theorem ownBlock_len (a : Option Addr) (n m c c' : Nat) : (Value.slice a n c).ownBlock = (Value.slice a m c').ownBlock := by cases a <;> rfl

theorem one_cell_nat (j : Nat) : ∀ u ∈ [natv j], u.oneCell' = true := by
  intro u hu
  simp at hu
  subst hu
  rfl

theorem le_max5 {n : Nat} (h : n ≤ 100000) : n + 1 ≤ maxLen := by
  unfold maxLen
  omega

set_option maxHeartbeats 1000000 in
set_option maxRecDepth 10000 in
theorem graphSweep_is {O : Nat → Prop} {w : World} {gb : Nat} {S : GrS} (hG : GrIs O w gb S) (k : S.g.Ok) {itv : Value} {Sx : List (RefT S.g) → Prop}
    (hit : ∀ W, Only O w W → w.heap.size = W.heap.size → GrIs O W gb { S with free := [] } → Calls Tryz.prog 128 #[.pointer (some ⟨gb, 0, none⟩), itv] W (ReachPost O W gb { S with free := [] } Sx)) :
    Calls Tryz.prog 88 #[.pointer (some ⟨gb, 0, none⟩), itv] w (SweepPost O w gb S Sx) := by
  obtain ⟨ov, nv, fv, mb, rb, M, R, hA⟩ := hG
  obtain ⟨i0, hi, hz0, hz1, hz2⟩ := info_parts Tryz.infoIntP
  obtain ⟨w1, hrun1, r1, t1⟩ := hA.res.clear Tryz.underlying154 0
  have hA1 : GrAt O w1 gb S ov nv fv mb rb M [] := hA.results t1 r1 (by simp) (by simp)
  obtain ⟨fao, fcap, efv⟩ := hA1.freeVal
  subst efv
  have hsl : fao = none → fcap = 0 := by
    intro e
    subst e
    rcases hA1.free.1.2 with ⟨e, _⟩ | ⟨g, cap, cur, e, _⟩
    · simp at e; exact e.2
    · simp at e
  obtain ⟨w2, hw2⟩ : ∃ w2, w2 = w1.setCell ⟨gb, 3, none⟩ (.slice fao 0 fcap) := ⟨_, rfl⟩
  have hb2 : ∀ b, b ≠ gb → w2.heap[b]? = w1.heap[b]? := fun b hb => by rw [hw2, Below.heap_setCell _ _ _ _ hb]
  have hs2 : w2.heap.size = w1.heap.size := by rw [hw2]; simp [World.setCell]
  have ho2 : Only O w w2 := by rw [hw2]; exact (t1.only hA.orr).setCell (p := ⟨gb, 3, none⟩) (.inl hA.self) _
  have hrowne : ∀ {e size v n xs}, w1.ownsRow 0 e size v n xs → e ≠ 156 → ∀ b, v.ownBlock = some b → w2.heap[b]? = w1.heap[b]? := by
    intro e size v n xs ho he b hb
    obtain ⟨cur, hc⟩ := row_block ho hb
    refine hb2 b ?_
    intro e1
    subst e1
    have := hA1.cells
    rw [hc] at this
    simp at this
    exact he this.2
  have hmaps := hA1.maps_ne
  have hA2 : GrAt O w2 gb { S with free := [] } ov nv (.slice fao 0 fcap) mb rb M [] := by
    refine { hA1 with lt := fun b hb => by rw [hs2]; exact hA1.lt b hb, cells := ?_, order := hA1.order.same (hrowne hA1.order.1 (by decide)), nodes := owns_same hA1.nodes (hrowne hA1.nodes (by decide)), free := ?_, nums := hA1.nums.same (hb2 mb (hmaps gb _ _ _ hA1.cells).1.symm), res := hA1.res.same (hb2 rb (hmaps gb _ _ _ hA1.cells).2.symm), of := by rw [ownBlock_len fao 0 S.free.length fcap fcap]; exact hA1.of, fdup := by simp, fok := fun i hi => by simp at hi }
    · rw [hw2, heap_setCell_at hA1.cells]; rfl
    · refine ⟨?_, fun b hb => hA1.free.2 b (by rw [← ownBlock_len fao 0 S.free.length fcap fcap]; exact hb)⟩
      show w2.ownsRow 0 3 1 (.slice fao 0 fcap) 0 []
      have hfr := hA1.free.1
      rcases hfr.2 with ⟨e, _⟩ | ⟨g, cap, cur, e, hb, hg, hn, hm, hs, ht⟩
      · simp at e
        obtain ⟨rfl, _, rfl⟩ := e
        exact World.ownsRow_nil _ _ _ _
      · simp only [Value.slice.injEq] at e
        obtain ⟨rfl, _, rfl⟩ := e
        refine ⟨rfl, .inr ⟨g, fcap, cur, rfl, Nat.zero_le _, ?_, Nat.zero_le _, hm, hs, by simp⟩⟩
        have := hrowne hfr (by decide) g rfl
        rw [this]; exact hg
  have hreach := hit w2 ho2 (by rw [hs2]; exact t1.2.symm) ⟨_, _, _, _, _, _, _, hA2⟩
  obtain ⟨nb, ncap, ncur, en, hnb, hob, hngb, _⟩ := hA2.nodesBlock
  have hn1 : 1 ≤ S.nl.length := hA.n1
  have hnl : S.nl.length ≤ 100000 := hA.nlen
  have hmain : ∀ xs A kb w3, Sx xs → MarkAt O w3 gb { S with free := [] } kb A.length A → w2.heap.size ≤ kb → Below w2.heap.size w2 w3 → MarkedAll S.g A xs → SweepAt O w3 gb { S with free := [] } ov nv mb rb A kb 0 w3 ∧ A.length = S.nl.length ∧
      (∀ wr, SweepAt O w3 gb { S with free := [] } ov nv mb rb A kb (S.nl.length - 1) wr → SweepPost O w gb S Sx (.returned (.tuple #[])) wr) := by
    intro xs A kb w3 hS hM hkb hb3 hall
    have hl := hM.len
    refine ⟨⟨⟨O, _, _, hA2.below hb3, Only.refl _ _, Grows.refl _ _, hM.no⟩, hM.row⟩, hl, ?_⟩
    intro wr h
    obtain ⟨⟨O', fv', M', h1, h2, h3, h4⟩, h5⟩ := h
    have hsw := swept_of (S := { S with free := [] }) (A := A) k hl hn1 rfl (xs := xs) hall
    refine ⟨rfl, xs, A, sweepS { S with free := [] } A (S.nl.length - 1), hS, hall, ?_, ?_⟩
    · exact ⟨hsw.order, hsw.sem, hsw.ov, hsw.len, hsw.kept, hsw.gone, hsw.full⟩
    · exact ⟨(ho2.then_below hb3).trans h2 (Grows.refl _ _), O', ⟨_, _, _, _, _, _, _, h1⟩, fun b hb => (h3 b hb).imp id (fun e => Nat.le_trans (ho2.then_below hb3).size e)⟩
  have HM : Hid _ := hmain
  obtain ⟨c0, c1, c2, c3, c4⟩ := hA.c
  obtain ⟨d0, d1, d2, d3, d4⟩ := hA1.c
  obtain ⟨g0, g1, g2, g3, g4⟩ := hA2.c
  have f3 : w1.frozen? ⟨gb, 3, none⟩ = false := frozen_of_heap hA1.cells
  have hA2n : ∀ w3, Below w2.heap.size w2 w3 → w3.cell? ⟨gb, 1, none⟩ = some nv := fun w3 hb => (hA2.below hb).c.2.1
  subst en
  have HK : Hid S.g.Ok := k
  clear hmain hit hA hA1 hA2 r1 t1 hb2 hs2 ho2 hrowne hmaps hnb hob hngb k c0 c1 c2 c3 d0 d1 d2 d4 g0 g2 g3 g4
  go_enter Tryz.func88, Tryz.ntmps88
  go_upto_region 2 with (refine wpList_clear_is rfl _ 154 rfl hrun1 rfl ?_)
  rw [← hw2]
  clear hw2 hrun1 f3 d3 c4
  go_upto_region 3 with (go_at_call 128; refine hreach.mono ?_; clear hreach; rintro e w3 ⟨xs, A, kb, hS, rfl, hM, hkb, hb3, hall⟩)
  obtain ⟨hst, hAl, hfin⟩ := HM.out xs A kb w3 hS hM hkb hb3 hall
  have q1 := hA2n w3 hb3
  have HF : Hid _ := hfin
  clear hfin HM hA2n g1 hM hkb hS hall
  go_wp2_with fail
  try rw [hAl]
  go_loopw [5] (fun i wr => ∃ m : Nat, m ≤ S.nl.length - 1 ∧ i = .int .i64 ((S.nl.length - 1 - m : Nat) : Int) ∧ SweepAt O w3 gb { S with free := [] } ov (.slice (some ⟨nb, 0, none⟩) S.nl.length ncap) mb rb A kb m wr) (fun i _ => (intOf i).toNat)
  case atStart => exact ⟨0, Nat.zero_le _, congrArg (Value.int .i64) (by omega), hst⟩
  case round =>
    obtain ⟨m, hm, rfl, h⟩ := hrel
    by_cases hj : m < S.nl.length - 1
    · obtain ⟨j, hjd⟩ : ∃ j, j = S.nl.length - 1 - m := ⟨_, rfl⟩
      have hj0 : 0 < j := by omega
      have hjl : j < A.length := by omega
      rw [← hjd]
      have HJ : Hid (j = S.nl.length - 1 - m) := hjd
      have Hm : Hid (m < S.nl.length - 1) := hj
      have hcell : wr.cell? ⟨kb, j, none⟩ = some (.bool (A.getD j false)) := by
        have := h.row.cells (g := kb) rfl j (.bool (A.getD j false)) (by rw [List.getElem?_map, List.getD_eq_getElem?_getD, List.getElem?_eq_getElem hjl]; rfl)
        have hadd : (⟨kb, 0, none⟩ : Addr).add j = ⟨kb, 0 + j, none⟩ := by unfold Addr.add; split <;> simp_all
        rw [hadd, Nat.zero_add] at this
        exact this
      cases hv : A.getD j false
      · rw [hv] at hcell
        obtain ⟨⟨O', fv', M', h1, h2, h3, h4⟩, h5⟩ := h
        obtain ⟨fao', fcap', efv'⟩ := h1.freeVal
        subst efv'
        have hSl : (sweepS { S with free := [] } A m).nl.length = S.nl.length := sweepS_len _ A m
        have hfl := h1.free_len
        rw [hSl] at hfl
        obtain ⟨nb', ncap', ncur, en', hnb, hob, hngb, hncap, hncm, hncs, hntk⟩ := h1.nodesBlock
        rw [hSl] at en' hncap
        simp only [Value.slice.injEq, Option.some.injEq, Addr.mk.injEq, and_true, true_and] at en'
        obtain ⟨rfl, rfl⟩ := en'
        have hnbl : nb < wr.heap.size := (Array.getElem?_eq_some_iff.1 hnb).1
        have hgbl := h1.lt gb h1.self
        have hmaps := h1.maps_ne
        obtain ⟨w1', M1, hrunD, a1, t1, q1'⟩ := (h1.nums.same (w' := wr.drew) rfl).drop node_keyed Tryz.underlying153 (h1.keyAt j) 0
        replace t1 := t1.undrew
        have hjS : j < (sweepS { S with free := [] } A m).nl.length := by omega
        have hcells : ∀ i, i < 3 → wr.cell? ⟨nb, j * 3 + i, none⟩ = (ndCells ((sweepS { S with free := [] } A m).nl.getD j none))[i]? := by
          obtain ⟨nb2, ncap2, e2, _, _, hc⟩ := h1.nodesAt
          rw [hSl] at e2
          simp only [Value.slice.injEq, Option.some.injEq, Addr.mk.injEq, and_true, true_and] at e2
          obtain ⟨rfl, _⟩ := e2
          exact hc j hjS
        have k0 := hcells 0 (by omega)
        have k1 := hcells 1 (by omega)
        have k2 := hcells 2 (by omega)
        rw [ndCells_z] at k0 k1 k2
        simp only [Nat.add_zero, List.getElem?_cons_zero, List.getElem?_cons_succ] at k0 k1 k2
        unfold ndKey key3 at hrunD
        have hb1 : ∀ b, b < wr.heap.size → b ≠ mb → w1'.heap[b]? = wr.heap[b]? := fun b hb hne => t1.1.block b hb (by simp; exact hne)
        have hgc1 : w1'.heap[gb]? = _ := (hb1 gb hgbl (hmaps gb _ _ _ h1.cells).1).trans h1.cells
        have hnc1 := (hb1 nb hnbl (hmaps nb _ _ _ hnb).1).trans hnb
        obtain ⟨W2, hW2⟩ : ∃ W2, W2 = ((w1'.setCell ⟨nb, j * 3, none⟩ (.int .i64 (0 : Nat))).setCell ⟨nb, j * 3 + 1, none⟩ (.int .i64 (0 : Nat))).setCell ⟨nb, j * 3 + 2, none⟩ (.int .i64 (0 : Nat)) := ⟨_, rfl⟩
        have hb2 : ∀ b, b ≠ nb → W2.heap[b]? = w1'.heap[b]? := by
          intro b hb
          rw [hW2, Below.heap_setCell _ _ _ _ hb, Below.heap_setCell _ _ _ _ hb, Below.heap_setCell _ _ _ _ hb]
        have hs2 : W2.heap.size = wr.heap.size := by rw [hW2]; simp [World.setCell]; exact t1.2
        have hgc2 := (hb2 gb hngb.symm).trans hgc1
        have hfrow : W2.ownsRow 0 3 1 (.slice fao' (sweepS { S with free := [] } A m).free.length fcap') (sweepS { S with free := [] } A m).free.length ((sweepS { S with free := [] } A m).free.map natv) := by
          have hfr := h1.free.1
          rw [List.length_map] at hfr
          refine owns_same hfr (fun b hb => ?_)
          obtain ⟨cur, hc⟩ := row_block hfr hb
          have hbl := (Array.getElem?_eq_some_iff.1 hc).1
          rw [hb2 b (by intro e; subst e; rw [hc] at hnb; simp at hnb), hb1 b hbl (hmaps b _ _ _ hc).1]
        have hfgb : (Value.slice fao' (sweepS { S with free := [] } A m).free.length fcap').ownBlock ≠ some gb := by
          intro e
          obtain ⟨cur, hc⟩ := row_block hfrow e
          rw [hgc2] at hc
          simp at hc
        have x1 : w1'.cell? ⟨gb, 1, none⟩ = some (.slice (some ⟨nb, 0, none⟩) S.nl.length ncap) := by rw [cell_of_heap hgc1]; rfl
        have x3 : W2.cell? ⟨gb, 3, none⟩ = some (.slice fao' (sweepS { S with free := [] } A m).free.length fcap') := by rw [cell_of_heap hgc2]; rfl
        have hsz : j * 3 + 2 < ncur.size := by rw [hncs]; omega
        obtain ⟨y0, z0⟩ := cell3 (i := j * 3) hnc1 (by omega)
        obtain ⟨y1, z1⟩ := cell3 (i := j * 3 + 1) hnc1 (by omega)
        obtain ⟨y2, z2⟩ := cell3 (i := j * 3 + 2) hnc1 (by omega)
        have f0 : w1'.frozen? ⟨nb, j * 3, none⟩ = false := frozen_of_heap hnc1
        have f1 : w1'.frozen? ⟨nb, j * 3 + 1, none⟩ = false := frozen_of_heap hnc1
        have f2 : w1'.frozen? ⟨nb, j * 3 + 2, none⟩ = false := frozen_of_heap hnc1
        have hx2 : wr.cell? ⟨gb, 2, none⟩ = some (.map (some mb)) := h1.c.2.2.1
        have hx1 : wr.cell? ⟨gb, 1, none⟩ = some (.slice (some ⟨nb, 0, none⟩) S.nl.length ncap) := h1.c.2.1
        have hstore : ∀ (w3' : World) (o : Obj), (W2.alloc o).grownBy w3' (Value.slice fao' (sweepS { S with free := [] } A m).free.length fcap').ownBlock → w3'.cell? ⟨gb, 3, none⟩ = some (.slice fao' (sweepS { S with free := [] } A m).free.length fcap') ∧ w3'.frozen? ⟨gb, 3, none⟩ = false := by
          intro w3' o hg
          have : w3'.heap[gb]? = _ := (hg.block gb (by simp; omega) (fun e => hfgb e.symm)).trans ((((Below.refl W2.heap.size W2).alloc (Nat.le_refl _) o).block gb (by omega)).trans hgc2)
          exact ⟨by rw [cell_of_heap this]; rfl, frozen_of_heap this⟩
        have hdrop : ∀ (w3' : World) (o : Obj) (v' : Value), w3'.ownsRow 0 3 1 v' ((sweepS { S with free := [] } A m).free.length + 1) ((sweepS { S with free := [] } A m).free.map natv ++ [natv j]) → (W2.alloc o).grownBy w3' (Value.slice fao' (sweepS { S with free := [] } A m).free.length fcap').ownBlock → Placed (W2.alloc o) (.slice fao' (sweepS { S with free := [] } A m).free.length fcap') v' →
            SweepAt O w3 gb { S with free := [] } ov (.slice (some ⟨nb, 0, none⟩) S.nl.length ncap) mb rb A kb (m + 1) (w3'.setCell ⟨gb, 3, none⟩ v') := by
          intro w3' o v' ho hg hp
          subst hjd
          exact SweepAt.dropped (S := { S with free := [] }) h1 h2 h3 h4 h5 HK.out (by show m + 1 < S.nl.length; omega) hv rfl rfl a1 t1 q1' hW2 ho hg hp rfl
        have HD : Hid _ := hdrop
        have HSt : Hid _ := hstore
        have hfl5 : (sweepS { S with free := [] } A m).free.length ≤ 100000 := by omega
        have hjn : (j : Int) < (S.nl.length : Int) := by omega
        generalize (sweepS { S with free := [] } A m).free = FL at *
        generalize ndZ ((sweepS { S with free := [] } A m).nl.getD j none) = z at *
        obtain ⟨zv, zt, ze⟩ := z
        simp only at k0 k1 k2 hrunD
        have HR : Hid _ := hrunD
        clear hdrop hstore hrunD a1 t1 q1' h1 h2 h3 h4 h5 hb1 hb2 hgc1 hgc2 hnc1 hfgb hsz hnb hob hngb hncap hncm hncs hntk hjS hcells hmaps hnbl hgbl hSl hfl hv hjd hst HF hs2
        go_upto_region 7 with fail
        go_region_law (refine step_delete_run rfl (.tmp 39) (.tmp 46) 153 214 rfl HR.out (by simp [Act.eval, Act.put]) (by simp [Act.eval, Act.put]) ?_)
        all_goals
          clear k0 k1 k2 hx1 hx2 HR hcell q1 hb3 hn1
          go_upto_region 9 with fail
          simp only [Int.natCast_zero, Int.cast_ofNat_Int] at hW2
          rw [← hW2]
          clear hW2 x1 y0 z0 y1 z1 y2 z2 f0 f1 f2 hjl
          go_upto_region 5 with (at_builtin; refine wpList_append_placed rfl (.tmp 58) (.tmp 60) 25 rfl 0 3 i0 (.int .i64 0) 1 8 Tryz.underlying25 hi hz0 hz1 hz2 rfl (by decide) _ _ _ rfl (hfrow.alloc _) _ 1 1 [natv j] rfl rfl ?_ ?_ ?_ ?_ (Nat.zero_le _) ?_; exact cell_one_new _ _ _; exact one_cell_nat _; exact le_max5 hfl5; omega; intro v' w3' ho hg hp; obtain ⟨vao, vcap, rfl⟩ := owns_form ho; obtain ⟨f9, x9⟩ := HSt.out _ _ hg; have hd9 := HD.out _ _ _ ho hg hp; have HD9 : Hid _ := hd9; clear hd9 ho hg hp)
          clear f9 x9
          go_wp2_with fail
          go_roundw
          case rel => exact ⟨m + 1, by have := Hm.out; omega, congrArg (Value.int .i64) (by have := HJ.out; have := Hm.out; omega), HD9.out⟩
          case measure => simp [intOf]; omega
      · rw [hv] at hcell
        have hnx := h.next (by show A.getD (S.nl.length - 1 - m) false = true; rw [← hjd]; exact hv)
        have HN : Hid _ := hnx
        clear hnx h hv hjd hst
        go_wp2
        go_roundw
        case rel => exact ⟨m + 1, by have := Hm.out; omega, congrArg (Value.int .i64) (by have := HJ.out; have := Hm.out; omega), HN.out⟩
        case measure => simp [intOf]; omega
    · have hm' : m = S.nl.length - 1 := by omega
      subst hm'
      have hz : S.nl.length - 1 - (S.nl.length - 1) = 0 := by omega
      rw [hz]
      have HH : Hid (SweepPost O w gb S Sx (.returned (.tuple #[])) wr) := HF.out wr h
      clear h HF hst hz
      go_wp2
      first | exact HH.out | (go_end0; exact HH.out)

end Go.Proofs.YtebfmcafmojlaaaGreatDoor

