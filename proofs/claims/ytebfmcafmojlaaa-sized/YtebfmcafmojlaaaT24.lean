/-
  maps.Clone of the nodes' numbers.
-/
import Derived.Laws.Externs
import Derived.MapKept
import Derived.Test.YtebfmcafmojlaaaT23
import Derived.Test.YtebfmcafmojlaaaT07
namespace Go.Proofs.Ytebfmcafmojlaaa
open Go.RowKit Go.Maps
set_option linter.unusedSimpArgs false
set_option linter.unusedVariables false

theorem run_equal_map_nil {P : Program} (w : World) (d : Nat) (t k e : TypeId) (p : Option Nat) (h : P.underlying t = some (.map k e)) : (Op.equalIn (d + 1) t (.map p) (.map none)).run P w = .ok p.isNone w := by
  cases p <;> simp [Op.equalIn, run_underlying h]
theorem run_eq_map_nil {P : Program} (w : World) (t k e : TypeId) (p : Option Nat) (h : P.underlying t = some (.map k e)) : (binOp .eql t (.map p) (.map none)).run P w = .ok (.bool p.isNone) w := by
  simp only [binOp]
  simp [show Op.equal t (.map p) (.map none) = Op.equalIn (9999 + 1) t (.map p) (.map none) from rfl, run_equal_map_nil w 9999 t k e p h]
theorem run_assert_map {P : Program} (w : World) (t xT k e : TypeId) (v : Value) (h : P.underlying t = some (.map k e)) : (Instr.typeAssert (.iface t v) xT t false).run P w = .ok v w := by
  simp [Instr.typeAssert, run_underlying h, go_sem, Result.andThen]
theorem run_clone_map {P : Program} (w : World) {r : Nat} {es : Array MapEntry} {clock : Nat} (t : TypeId) (hb : w.heap[r]? = some (.map es clock)) :
    (Extern.MapsClone.clone #[.iface t (.map (some r))]).run P w = .ok (.iface t (.map (some w.heap.size))) (w.alloc (.map es clock)) := by
  have e : Extern.MapsClone.clone #[.iface t (.map (some r))] = (getObj r >>= fun o => match o with
      | .map entries clock => (newObj (.map entries clock) >>= fun n => pure (.iface t (.map (some n))))
      | _ => stuck "maps.clone: a map expected") := rfl
  rw [e]
  simp [MapKept.run_getObj_map hb, Result.andThen, go_sem]

set_option maxHeartbeats 2000000 in
set_option maxRecDepth 100000 in
theorem mapsClone_is {w : World} {b : Nat} {M : List (Value × Value)} (h : MapIs Try.prog 97 w b M) :
    Calls Try.prog 72 #[.map (some b)] w fun e w' => e = .returned (.map (some w.heap.size)) ∧ MapIs Try.prog 97 w' w.heap.size M ∧ Below w.heap.size w w' := by
  obtain ⟨es, clock, hb, hs, hk, hM⟩ := h
  have hq := fun w => run_eq_map_nil (P := Try.prog) w 87 _ _ (some b) Try.underlying87
  go_enter Try.func72, Try.ntmps72
  go_wp2
  rw [run_callFunc_extern Try.func79 (by kernel_rfl) (by kernel_rfl) (by kernel_rfl) (e := Extern.MapsClone.clone) (by kernel_rfl), run_clone_map w 87 hb]
  simp only [Result.andThen]
  rw [Oper.upon_value]
  go_wp2
  rw [run_assert_map _ 87 _ _ _ _ Try.underlying87]
  simp only [Result.andThen]
  rw [Oper.upon_value]
  go_wp2
  go_ret
  exact ⟨rfl, ⟨es, clock, (MapKept.heap_alloc w _).1, hs, hk, hM⟩, (Below.refl _ w).alloc (Nat.le_refl _) _⟩

end Go.Proofs.Ytebfmcafmojlaaa

/-
  graph: Clone: what it makes.
-/
namespace Go.Proofs.Ytebfmcafmojlaaa
open Go.RowKit Go.Maps
set_option linter.unusedSimpArgs false
set_option linter.unusedVariables false

def ClonePost (w : World) (S : GrS) (e : Ending) (w' : World) : Prop :=
  ∃ gb' ov', e = .returned (.pointer (some ⟨gb', 0, none⟩)) ∧ w.heap.size ≤ gb' ∧ Below w.heap.size w w' ∧ GrIs (fun b => w.heap.size ≤ b ∧ b < w'.heap.size) w' gb' { S with ov := ov' }

theorem cloneG_post {O : Nat → Prop} {w : World} {gb : Nat} {S : GrS} {ov nv fv : Value} {mb rb : Nat} {M R : List (Value × Value)} (hA : GrAt O w gb S ov nv fv mb rb M R) {Wp : World} (hb : Below w.heap.size w Wp) {v1 v2 v4 : Value} {m r : Nat}
    (h1 : Wp.ownsRow w.heap.size 3 1 v1 S.order.length (S.order.map natv)) (h2 : Wp.ownsRow w.heap.size 97 3 v2 S.nl.length (S.nl.flatMap ndCells)) (h4 : Wp.ownsRow w.heap.size 3 1 v4 S.free.length (S.free.map natv)) (hne : v1.ownBlock = none ∨ v1.ownBlock ≠ v4.ownBlock)
    (hm : MapIs Try.prog 97 Wp m M) (hml : w.heap.size ≤ m) (hr : MapIs Try.prog 102 Wp r []) (hrl : w.heap.size ≤ r) (hmr : m ≠ r) {W6 : World} (hW6 : W6 = Wp.alloc (.cells #[v1, v2, .map (some m), v4, .map (some r)] 90)) :
    ClonePost w S (.returned (.pointer (some ⟨Wp.heap.size, 0, none⟩))) W6 := by
  have hb6 : Below Wp.heap.size Wp W6 := by rw [hW6]; exact (Below.refl _ Wp).alloc (Nat.le_refl _) _
  have hs6 : W6.heap.size = Wp.heap.size + 1 := by rw [hW6]; simp
  have hc6 : W6.heap[Wp.heap.size]? = some (.cells #[v1, v2, .map (some m), v4, .map (some r)] 90 (0, 0)) := by rw [hW6]; exact heap_alloc_new _ _
  have hbs := hb.size
  have hmlt := hm.lt
  have hrlt := hr.lt
  have o1 := owns_below h1 hb6 (Nat.le_refl _)
  have o2 := owns_below h2 hb6 (Nat.le_refl _)
  have o4 := owns_below h4 hb6 (Nat.le_refl _)
  have hin : ∀ {e : TypeId} {size : Nat} {v : Value} {n : Nat} {xs : List Value}, W6.ownsRow w.heap.size e size v n xs → InO (fun b => w.heap.size ≤ b ∧ b < W6.heap.size) v := fun ho k hk => ho.lt k hk
  refine ⟨Wp.heap.size, v1, rfl, hbs, hb.trans (hb6.mono hbs), v1, v2, v4, m, r, M, [], ?_⟩
  have hg : ({ S with ov := v1 } : GrS).g = S.g := rfl
  refine { lt := fun b hb' => hb'.2, eov := rfl, self := ⟨hbs, by omega⟩, om := ⟨hml, by omega⟩, orr := ⟨hrl, by omega⟩, cells := hc6, order := ⟨?_, hin o1⟩, nodes := ownsRow_base o2 (Nat.zero_le _), nin := hin o2, free := ⟨?_, hin o4⟩, nums := hm.same (hb6.block m hmlt), res := hr.same (hb6.block r hrlt), mok := hA.mok, rok := fun p hp => by simp at hp, rlen := by simp, mr := hmr, of := hne, n1 := hA.n1, nlen := hA.nlen, ol := hA.ol, fdup := hA.fdup, fok := hA.fok }
  · rw [List.length_map]
    exact ownsRow_base o1 (Nat.zero_le _)
  · rw [List.length_map]
    exact ownsRow_base o4 (Nat.zero_le _)

theorem GrAt.freeLen {O : Nat → Prop} {w : World} {gb : Nat} {S : GrS} {ov nv fv : Value} {mb rb : Nat} {M R : List (Value × Value)} (hA : GrAt O w gb S ov nv fv mb rb M R) : S.free.length ≤ 100000 := by
  have h1 := hA.fdup.length_le_of_subset (l₂ := List.range S.nl.length) (by
    intro i hi
    exact List.mem_range.2 (hA.fok i hi).2.1)
  rw [List.length_range] at h1
  have := hA.nlen
  omega

theorem nodeCells_one (l : List (Option Nd)) : ∀ u ∈ l.flatMap ndCells, u.oneCell' = true := by
  intro u hu
  obtain ⟨n, _, hn⟩ := List.mem_flatMap.1 hu
  cases n with
  | none => simp [ndCells] at hn; subst hn; rfl
  | some n =>
    simp [ndCells] at hn
    rcases hn with rfl | rfl | rfl <;> rfl

end Go.Proofs.Ytebfmcafmojlaaa

/-
  graph: Clone.
-/
namespace Go.Proofs.Ytebfmcafmojlaaa
open Go.RowKit Go.Maps
set_option linter.unusedSimpArgs false
set_option linter.unusedVariables false

theorem MapIs.carry {P : Program} {k : TypeId} {w w' : World} {b : Nat} {L : List (Value × Value)} (h : MapIs P k w b L) (hb : Below w.heap.size w w') : MapIs P k w' b L := h.same (hb.block b h.lt)

theorem clone_end {O : Nat → Prop} {w : World} {gb : Nat} {S : GrS} {ov nv fv : Value} {mb rb : Nat} {M R : List (Value × Value)} (hA : GrAt O w gb S ov nv fv mb rb M R) {w1 w2 w3 w4 Wp W6 : World} {v1 v2 v4 : Value} {m r B2 B4 : Nat} (f1 : Below w.heap.size w w1) (k2 : Below w1.heap.size w1 w2) (k3 : Below w2.heap.size w2 w3) (k4 : Below w3.heap.size w3 w4) (k5 : Below w4.heap.size w4 Wp)
    {B1 : Nat} (hB1 : w.heap.size ≤ B1) (h1 : w1.ownsRow B1 3 1 v1 S.order.length (S.order.map natv)) (hB2 : w1.heap.size ≤ B2) (h2 : w2.ownsRow B2 97 3 v2 S.nl.length (S.nl.flatMap ndCells)) (hm : MapIs Try.prog 97 w3 m M) (hml : w2.heap.size ≤ m) (hB4 : w3.heap.size ≤ B4) (h4 : w4.ownsRow B4 3 1 v4 S.free.length (S.free.map natv))
    (hr : MapIs Try.prog 102 Wp r []) (hrl : w.heap.size ≤ r) (hmr : m ≠ r) (hW6 : W6 = Wp.alloc (.cells #[v1, v2, .map (some m), v4, .map (some r)] 90)) : ClonePost w S (.returned (.pointer (some ⟨Wp.heap.size, 0, none⟩))) W6 := by
  have s1 := f1.size
  have s2 := k2.size
  have s3 := k3.size
  have s4 := k4.size
  have s5 := k5.size
  have hbp : Below w.heap.size w Wp := (((f1.trans (k2.mono s1)).trans (k3.mono (by omega))).trans (k4.mono (by omega))).trans (k5.mono (by omega))
  have o1 := owns_below (owns_below (owns_below (owns_below h1 k2 (Nat.le_refl _)) k3 (Nat.le_refl _)) k4 (Nat.le_refl _)) k5 (Nat.le_refl _)
  have o2 := owns_below (owns_below (owns_below h2 k3 (Nat.le_refl _)) k4 (Nat.le_refl _)) k5 (Nat.le_refl _)
  have o4 := owns_below h4 k5 (Nat.le_refl _)
  refine cloneG_post hA hbp (ownsRow_base o1 hB1) (ownsRow_base o2 (by omega)) (ownsRow_base o4 (by omega)) ?_ ((hm.carry k4).carry k5) (by omega) hr hrl hmr hW6
  cases e1 : v1.ownBlock with
  | none => exact .inl rfl
  | some b =>
    right
    intro e
    have q1 := (h1.lt b e1).2
    have q4 := (h4.lt b e.symm).1
    omega

set_option maxHeartbeats 2000000 in
set_option maxRecDepth 100000 in
theorem graphClone_is {O : Nat → Prop} {w : World} {gb : Nat} {S : GrS} (hG : GrIs O w gb S) : Calls Try.prog 50 #[.pointer (some ⟨gb, 0, none⟩)] w (ClonePost w S) := by
  obtain ⟨ov, nv, fv, mb, rb, M, R, hA⟩ := hG
  obtain ⟨c0, c1, c2, c3, c4⟩ := hA.c
  have hcell : ∀ W, Below w.heap.size w W → W.cell? ⟨gb, 0, none⟩ = some ov ∧ W.cell? ⟨gb, 1, none⟩ = some nv ∧ W.cell? ⟨gb, 2, none⟩ = some (.map (some mb)) ∧ W.cell? ⟨gb, 3, none⟩ = some fv := fun W hb => ⟨(hA.below hb).c.1, (hA.below hb).c.2.1, (hA.below hb).c.2.2.1, (hA.below hb).c.2.2.2.1⟩
  have hcO : ∀ W, Below w.heap.size w W → Calls Try.prog 70 #[ov] W fun e w' => ∃ v', e = .returned v' ∧ w'.ownsRow W.heap.size 3 1 v' S.order.length (S.order.map natv) ∧ Below W.heap.size W w' := by
    intro W hb
    have := (hA.below hb).order.1
    rw [List.length_map] at this
    exact slicesCloneI this (by have := hA.ol; omega)
  have hcF : ∀ W, Below w.heap.size w W → Calls Try.prog 70 #[fv] W fun e w' => ∃ v', e = .returned v' ∧ w'.ownsRow W.heap.size 3 1 v' S.free.length (S.free.map natv) ∧ Below W.heap.size W w' := by
    intro W hb
    have := (hA.below hb).free.1
    rw [List.length_map] at this
    exact slicesCloneI this hA.freeLen
  have hcN : ∀ W, Below w.heap.size w W → Calls Try.prog 71 #[nv] W fun e w' => ∃ v', e = .returned v' ∧ w'.ownsRow W.heap.size 97 3 v' S.nl.length (S.nl.flatMap ndCells) ∧ Below W.heap.size W w' := fun W hb => slicesCloneN (hA.below hb).nodes (nodeCells_one _) hA.nlen
  have hcM : ∀ W, Below w.heap.size w W → Calls Try.prog 72 #[.map (some mb)] W fun e w' => e = .returned (.map (some W.heap.size)) ∧ MapIs Try.prog 97 w' W.heap.size M ∧ Below W.heap.size W w' := fun W hb => mapsClone_is (hA.below hb).nums
  have HC : Hid (∀ W, Below w.heap.size w W → W.cell? ⟨gb, 0, none⟩ = some ov ∧ W.cell? ⟨gb, 1, none⟩ = some nv ∧ W.cell? ⟨gb, 2, none⟩ = some (.map (some mb)) ∧ W.cell? ⟨gb, 3, none⟩ = some fv) := hcell
  have HO : Hid (∀ W, Below w.heap.size w W → Calls Try.prog 70 #[ov] W fun e w' => ∃ v', e = .returned v' ∧ w'.ownsRow W.heap.size 3 1 v' S.order.length (S.order.map natv) ∧ Below W.heap.size W w') := hcO
  have HF : Hid (∀ W, Below w.heap.size w W → Calls Try.prog 70 #[fv] W fun e w' => ∃ v', e = .returned v' ∧ w'.ownsRow W.heap.size 3 1 v' S.free.length (S.free.map natv) ∧ Below W.heap.size W w') := hcF
  have HN : Hid (∀ W, Below w.heap.size w W → Calls Try.prog 71 #[nv] W fun e w' => ∃ v', e = .returned v' ∧ w'.ownsRow W.heap.size 97 3 v' S.nl.length (S.nl.flatMap ndCells) ∧ Below W.heap.size W w') := hcN
  have HM : Hid (∀ W, Below w.heap.size w W → Calls Try.prog 72 #[.map (some mb)] W fun e w' => e = .returned (.map (some W.heap.size)) ∧ MapIs Try.prog 97 w' W.heap.size M ∧ Below W.heap.size W w') := hcM
  have HA : Hid (GrAt O w gb S ov nv fv mb rb M R) := hA
  have hmk : ∀ W : World, (Instr.makeMap 88 none).run Try.prog W = .ok (.map (some W.heap.size)) (W.alloc (.map #[] 0)) := fun _ => rfl
  have hb0 : Below w.heap.size w w.drew := (Below.refl _ _).drew
  clear hcell hcO hcF hcN hcM hA c4
  go_enter Try.func50, Try.ntmps50
  go_upto_region 1 with fail
  go_region_held (fun w' => w'.cell? ⟨gb, 0, none⟩ = some ov ∧ w'.cell? ⟨gb, 1, none⟩ = some nv ∧ w'.cell? ⟨gb, 2, none⟩ = some (.map (some mb)) ∧ w'.cell? ⟨gb, 3, none⟩ = some fv) (go_keep) (first
    | (go_at_call 70; refine (HO.out _ (by first | exact hb0 | exact hb0.alloc hb0.size _)).mono ?_; clear HO; rintro e w1 ⟨v1, rfl, ho1, hb1⟩; obtain ⟨a1, p1, rfl⟩ := owns_form ho1; have f1 : Below w.heap.size w w1 := (by first | exact hb0.trans (hb1.mono hb0.size) | exact (hb0.alloc hb0.size _).trans (hb1.mono (hb0.alloc hb0.size _).size)); obtain ⟨q0, q1, q2, q3⟩ := HC.out _ f1)
    | (go_at_call 71; refine (HN.out _ (by first | exact f1 | exact f1.alloc f1.size _)).mono ?_; clear HN; rintro e w2 ⟨v2, rfl, ho2, hb2⟩; obtain ⟨a2, p2, rfl⟩ := owns_form ho2; have k2 : Below w1.heap.size w1 w2 := (by first | exact hb2 | exact ((Below.refl _ _).alloc (Nat.le_refl _) _).trans (hb2.mono (by simp))); have f2 := f1.trans (k2.mono f1.size); obtain ⟨r0, r1, r2, r3⟩ := HC.out _ f2)
    | (go_at_call 72; refine (HM.out _ (by first | exact f2 | exact f2.alloc f2.size _)).mono ?_; clear HM; rintro e w3 ⟨rfl, hm3, hb3⟩; have k3 : Below w2.heap.size w2 w3 := (by first | exact hb3 | exact ((Below.refl _ _).alloc (Nat.le_refl _) _).trans (hb3.mono (by simp))); have f3 := f2.trans (k3.mono f2.size); obtain ⟨t0, t1, t2, t3⟩ := HC.out _ f3)
    | (go_at_call 70; refine (HF.out _ (by first | exact f3 | exact f3.alloc f3.size _)).mono ?_; clear HF; rintro e w4 ⟨v4, rfl, ho4, hb4⟩; obtain ⟨a4, p4, rfl⟩ := owns_form ho4; have k4 : Below w3.heap.size w3 w4 := (by first | exact hb4 | exact ((Below.refl _ _).alloc (Nat.le_refl _) _).trans (hb4.mono (by simp))); have f4 := f3.trans (k4.mono f3.size); obtain ⟨u0, u1, u2, u3⟩ := HC.out _ f4))
  · clear c0 c1 c2 c3 q0 q1 q2 q3 r0 r1 r2 r3 t0 t1 t2 t3 u0 u1 u2 u3
    have s3 := hm3.lt
    have s4 := k4.size
    have z1 := f1.size
    have z2 := k2.size
    have z3 := k3.size
    have hfin := clone_end HA.out f1 k2 k3 k4 ((Below.refl w4.heap.size w4).alloc (Nat.le_refl _) (.map #[] 0)) (by first | exact Nat.le_refl _ | simp) ho1 (by first | exact Nat.le_refl _ | simp) ho2 hm3 (by first | exact Nat.le_refl _ | simp) (by first | exact Nat.le_refl _ | simp) ho4 (MapIs.made Try.prog 102 w4) (by omega) (by omega) rfl
    simp only [World.size_alloc] at hfin
    have HFN : Hid _ := hfin
    clear hfin hm3 ho1 ho2 ho4 hb1 hb2 hb3 hb4
    go_wp2_with fail
    go_ret
    exact HFN.out
  · clear c0 c1 c2 c3 q0 q1 q2 q3 r0 r1 r2 r3 t0 t1 t2 t3 u0 u1 u2 u3
    have s3 := hm3.lt
    have z1 := f1.size
    have z2 := k2.size
    have z3 := k3.size
    have hfin := clone_end HA.out f1 k2 k3 k4 (Below.refl w4.heap.size w4) (by first | exact Nat.le_refl _ | simp) ho1 (by first | exact Nat.le_refl _ | simp) ho2 hm3 (by first | exact Nat.le_refl _ | simp) (by first | exact Nat.le_refl _ | simp) ho4 ((MapIs.made Try.prog 102 w3).carry hb4) (by omega) (by omega) rfl
    have HFN : Hid _ := hfin
    clear hfin hm3 ho1 ho2 ho4 hb1 hb2 hb3 hb4
    go_wp2_with fail
    go_ret
    exact HFN.out
  · clear c0 c1 c2 c3 q0 q1 q2 q3 r0 r1 r2 r3 t0 t1 t2 t3 u0 u1 u2 u3
    have z1 := f1.size
    have z2 := k2.size
    have hr3 := (MapIs.made Try.prog 102 w2).carry hb3
    simp only [World.size_alloc] at hm3
    have hfin := clone_end HA.out f1 k2 k3 k4 (Below.refl w4.heap.size w4) (by first | exact Nat.le_refl _ | simp) ho1 (by first | exact Nat.le_refl _ | simp) ho2 hm3 (by omega) (by first | exact Nat.le_refl _ | simp) ho4 (hr3.carry k4) (by omega) (by omega) rfl
    have HFN : Hid _ := hfin
    clear hfin hm3 hr3 ho1 ho2 ho4 hb1 hb2 hb3 hb4
    go_wp2_with fail
    go_ret
    exact HFN.out
  · clear c0 c1 c2 c3 q0 q1 q2 q3 r0 r1 r2 r3 t0 t1 t2 t3 u0 u1 u2 u3
    have z1 := f1.size
    have hr2 := (MapIs.made Try.prog 102 w1).carry hb2
    have s2 := hr2.lt
    have hfin := clone_end HA.out f1 k2 k3 k4 (Below.refl w4.heap.size w4) (by first | exact Nat.le_refl _ | simp) ho1 (by first | exact Nat.le_refl _ | simp) ho2 hm3 (by first | exact Nat.le_refl _ | simp) (by first | exact Nat.le_refl _ | simp) ho4 ((hr2.carry k3).carry k4) (by omega) (by omega) rfl
    have HFN : Hid _ := hfin
    clear hfin hm3 hr2 ho1 ho2 ho4 hb1 hb2 hb3 hb4
    go_wp2_with fail
    go_ret
    exact HFN.out
  · clear c0 c1 c2 c3 q0 q1 q2 q3 r0 r1 r2 r3 t0 t1 t2 t3 u0 u1 u2 u3
    have z2 := k2.size
    have hr1 := (MapIs.made Try.prog 102 w.drew).carry hb1
    have s1 : w.heap.size < w1.heap.size := hr1.lt
    have hfin := clone_end HA.out f1 k2 k3 k4 (Below.refl w4.heap.size w4) (by first | exact Nat.le_refl _ | simp) ho1 (by first | exact Nat.le_refl _ | simp) ho2 hm3 (by first | exact Nat.le_refl _ | simp) (by first | exact Nat.le_refl _ | simp) ho4 (((hr1.carry k2).carry k3).carry k4) (by first | exact Nat.le_refl _ | simp) (by first | omega | (simp; omega)) rfl
    have HFN : Hid _ := hfin
    clear hfin hm3 hr1 ho1 ho2 ho4 hb1 hb2 hb3 hb4
    go_wp2_with fail
    go_ret
    exact HFN.out

end Go.Proofs.Ytebfmcafmojlaaa

/-
  graph: level, branch, in the midst of a change of the order.
-/
namespace Go.Proofs.Ytebfmcafmojlaaa
open Go.RowKit Go.Maps
set_option linter.unusedSimpArgs false
set_option linter.unusedVariables false

theorem Gr.Sm.lev_const {G : Gr} {ex : Nat → Nat → Prop} (k : G.Sm ex) {r : Nat} (h : r / 2 = 0) : G.lev r = G.order.length := by unfold Gr.lev; rw [h, k.zero]
theorem Gr.Sm.lev_ne {G : Gr} {ex : Nat → Nat → Prop} (k : G.Sm ex) {r : Nat} (h : G.ok r) (hl : G.lev r < G.order.length) : ∃ n, G.node (r / 2) = some n := by
  rcases h with h | h
  · rw [Gr.Sm.lev_const k h] at hl; omega
  · exact h
theorem Gr.br_self2 {G : Gr} {r l : Nat} (b : Bool) (hl : G.lev r ≠ l) : G.br r l b = r := by
  unfold Gr.br
  split
  · rename_i n hn
    rw [if_neg]
    rw [Gr.lev_node hn] at hl
    exact hl
  · rfl

set_option maxHeartbeats 1000000 in
set_option maxRecDepth 10000 in
theorem graphLevel2_w {O : Nat → Prop} {w : World} {gb : Nat} {S : GrS} {ex : Nat → Nat → Prop} (hG : GrIs O w gb S) (k : S.g.Sm ex) (r : Nat) (hr : S.g.ok r) :
    Calls Try.prog 62 #[.pointer (some ⟨gb, 0, none⟩), .int .i64 r] w fun e w' => e = .returned (.int .i64 (S.g.lev r : Nat)) ∧ w' = (if r / 2 = 0 then w else w.drew) := by
  obtain ⟨ov, nv, fv, mb, rb, M, R, h⟩ := hG
  obtain ⟨c0, c1, c2, c3, c4⟩ := h.c
  obtain ⟨ao, cap, eo, hro⟩ := order_reads h
  subst eo
  have hol := h.ol
  by_cases hz : r / 2 = 0
  · have hcon := refConstant_is r
    have hd : decide (r / 2 = 0) = true := by simp [hz]
    rw [hd] at hcon
    have hlev := Gr.Sm.lev_const k hz
    rw [hlev]
    have HL : Hid (S.g.order.length = S.order.length) := rfl
    simp only [hz, if_true]
    clear hr h k
    go_enter Try.func62, Try.ntmps62
    go_wp2_with (go_at_call 68; refine (hcon _).mono ?_; rintro e w1 ⟨rfl, hq⟩; replace hq := hq.symm; subst hq)
    go_ret
    exact ⟨retI (by rw [HL.out]), rfl⟩
  · obtain ⟨n, hn⟩ := Gr.ok_node hr hz
    have hcon := refConstant_is r
    have hd : decide (r / 2 = 0) = false := by simp [hz]
    rw [hd] at hcon
    obtain ⟨nb, ncap, en, hnb, hob, hnode⟩ := h.nodeAt
    subst en
    obtain ⟨hi, d0, d1, d2⟩ := hnode _ _ hn
    have hlev := Gr.lev_node hn
    rw [hlev]
    have hidx : idxI S.order n.v = (S.g.idx n.v : Nat) := idxI_mem (k.var hn)
    have hix := slicesIndex_is (.slice ao S.order.length cap) S.order n.v
    have hnum := refNumber_is r
    obtain ⟨q, hq⟩ : ∃ q, q = r / 2 := ⟨_, rfl⟩
    rw [← hq] at hi d0 hnum
    have HQ : Hid (q = r / 2) := hq
    simp only [hz, if_false]
    clear hr h k hnode hn hlev hd d1 d2 hq
    go_enter Try.func62, Try.ntmps62
    go_wp2_with (go_at_call 68; refine (hcon _).mono ?_; rintro e w1 ⟨rfl, hq⟩; replace hq := hq.symm; subst hq)
    go_region_held (fun w' => w'.cell? ⟨gb, 0, none⟩ = some (.slice ao S.order.length cap) ∧ w'.cell? ⟨gb, 1, none⟩ = some (.slice (some ⟨nb, 0, none⟩) S.nl.length ncap) ∧ w'.cell? ⟨nb, q * 3, none⟩ = some (.int .i64 (n.v : Nat))) (go_keep) (first | (go_at_call 69; refine (hnum _).mono ?_; rintro e w1 ⟨rfl, hq⟩; replace hq := hq.symm; subst hq) | (go_at_call 67; refine (hix _ (hro.below (Below.refl _ _).drew (Nat.le_refl _)) (by omega)).mono ?_; rintro e w1 ⟨rfl, hq⟩; replace hq := hq.symm; subst hq))
    all_goals
      go_wp2
      go_ret
      exact ⟨by first | rfl | exact retI hidx, rfl⟩

theorem graphLevel2_is {O : Nat → Prop} {w : World} {gb : Nat} {S : GrS} {ex : Nat → Nat → Prop} (hG : GrIs O w gb S) (k : S.g.Sm ex) (r : Nat) (hr : S.g.ok r) :
    Calls Try.prog 62 #[.pointer (some ⟨gb, 0, none⟩), .int .i64 r] w fun e w' => e = .returned (.int .i64 (S.g.lev r : Nat)) ∧ Below w.heap.size w w' := by
  refine (graphLevel2_w hG k r hr).mono ?_
  rintro e w' ⟨he, hw⟩
  refine ⟨he, ?_⟩
  rw [hw]
  split
  · exact Below.refl _ _
  · exact (Below.refl _ _).drew

set_option maxHeartbeats 1000000 in
set_option maxRecDepth 10000 in
theorem graphBranch2_is {O : Nat → Prop} {w : World} {gb : Nat} {S : GrS} {ex : Nat → Nat → Prop} (hG : GrIs O w gb S) (k : S.g.Sm ex) (r l : Nat) (b : Bool) (hr : S.g.ok r) (hl : l < S.g.order.length) :
    Calls Try.prog 64 #[.pointer (some ⟨gb, 0, none⟩), .int .i64 r, .int .i64 l, .bool b] w fun e w' => e = .returned (.int .i64 (S.g.br r l b : Nat)) ∧ Below w.heap.size w w' := by
  have hlv := graphLevel2_is hG k r hr
  by_cases he : S.g.lev r = l
  · obtain ⟨n, hn⟩ := Gr.Sm.lev_ne k hr (by omega)
    have hbr := Gr.br_node (l := l) b hn ((Gr.lev_node hn).symm.trans he)
    rw [hbr]
    rw [he] at hlv
    obtain ⟨ov, nv, fv, mb, rb, M, R, h⟩ := hG
    obtain ⟨c0, c1, c2, c3, c4⟩ := h.c
    obtain ⟨nb, ncap, en, hnb, hob, hnode⟩ := h.nodeAt
    subst en
    obtain ⟨hi, d0, d1, d2⟩ := hnode _ _ hn
    have hgb := h.lt gb h.self
    have hst := h.small hr
    have hsm : n.t < refMax ∧ n.e < refMax ∧ r < refMax := by
      have := h.small (k.tok hn); have := h.small (k.eok hn)
      unfold refMax; omega
    have ht := refTurnedLike_is n.t r hsm.1 hsm.2.2
    have hee := refTurnedLike_is n.e r hsm.2.1 hsm.2.2
    have hnum := refNumber_is r
    obtain ⟨q, hq⟩ : ∃ q, q = r / 2 := ⟨_, rfl⟩
    rw [← hq] at hi d0 d1 d2 hnum
    have HQ : Hid (q = r / 2) := hq
    obtain ⟨v, t, e⟩ := n
    simp only at d0 d1 d2 ht hee ⊢
    have hneq : ((l : Int) != (l : Int)) = false := by simp
    clear hr h k hnode hn hq hbr he hst hsm
    cases b
    · go_enter Try.func64, Try.ntmps64
      go_wp2_with (go_at_call 62; refine hlv.mono ?_; rintro e' w1 ⟨rfl, hb⟩; have f1 := (hb.cell (p := ⟨gb, 1, none⟩) hgb).trans c1; have g0 := (hb.cell (p := ⟨nb, q * 3, none⟩) hnb).trans d0; have g1 := (hb.cell (p := ⟨nb, q * 3 + 1, none⟩) hnb).trans d1; have g2 := (hb.cell (p := ⟨nb, q * 3 + 2, none⟩) hnb).trans d2)
      go_region_held (fun w' => w'.cell? ⟨gb, 1, none⟩ = some (.slice (some ⟨nb, 0, none⟩) S.nl.length ncap) ∧ w'.cell? ⟨nb, q * 3, none⟩ = some (.int .i64 (v : Nat)) ∧ w'.cell? ⟨nb, q * 3 + 1, none⟩ = some (.int .i64 (t : Nat)) ∧ w'.cell? ⟨nb, q * 3 + 2, none⟩ = some (.int .i64 (e : Nat))) (go_keep) (first | (go_at_call 69; refine (hnum _).mono ?_; rintro e' w1 ⟨rfl, hq⟩; replace hq := hq.symm; subst hq))
      all_goals
        go_wp2_with (go_at_call 77; refine (hee _).mono ?_; rintro e' w1 ⟨rfl, hq⟩; replace hq := hq.symm; subst hq)
        go_ret
        exact ⟨rfl, (hb.alloc hb.size _).drew⟩
    · go_enter Try.func64, Try.ntmps64
      go_wp2_with (go_at_call 62; refine hlv.mono ?_; rintro e' w1 ⟨rfl, hb⟩; have f1 := (hb.cell (p := ⟨gb, 1, none⟩) hgb).trans c1; have g0 := (hb.cell (p := ⟨nb, q * 3, none⟩) hnb).trans d0; have g1 := (hb.cell (p := ⟨nb, q * 3 + 1, none⟩) hnb).trans d1; have g2 := (hb.cell (p := ⟨nb, q * 3 + 2, none⟩) hnb).trans d2)
      go_region_held (fun w' => w'.cell? ⟨gb, 1, none⟩ = some (.slice (some ⟨nb, 0, none⟩) S.nl.length ncap) ∧ w'.cell? ⟨nb, q * 3, none⟩ = some (.int .i64 (v : Nat)) ∧ w'.cell? ⟨nb, q * 3 + 1, none⟩ = some (.int .i64 (t : Nat)) ∧ w'.cell? ⟨nb, q * 3 + 2, none⟩ = some (.int .i64 (e : Nat))) (go_keep) (first | (go_at_call 69; refine (hnum _).mono ?_; rintro e' w1 ⟨rfl, hq⟩; replace hq := hq.symm; subst hq))
      all_goals
        go_wp2_with (go_at_call 77; refine (ht _).mono ?_; rintro e' w1 ⟨rfl, hq⟩; replace hq := hq.symm; subst hq)
        go_ret
        exact ⟨rfl, (hb.alloc hb.size _).drew⟩
  · rw [Gr.br_self2 b he]
    have hneq := neq_nat (S.g.lev r) l
    have hb' : (S.g.lev r != l) = true := by simp [he]
    rw [hb'] at hneq
    clear hb' he
    go_enter Try.func64, Try.ntmps64
    go_wp2_with (go_at_call 62; refine hlv.mono ?_; rintro e' w1 ⟨rfl, hb⟩)
    go_ret
    exact ⟨rfl, hb⟩

end Go.Proofs.Ytebfmcafmojlaaa

/-
  graph: turn: a node asks another variable, in memory.
-/
namespace Go.Proofs.Ytebfmcafmojlaaa
open Go.RowKit Go.Maps
set_option linter.unusedSimpArgs false
set_option linter.unusedVariables false

theorem MapTurn.drewR {w w' : World} {b : Nat} (h : MapTurn w w' b) : MapTurn w w'.drew b := ⟨⟨h.1.os, h.1.tape, h.1.output, h.1.size, h.1.block⟩, h.2⟩

/-- S with another node under the number j; it tells the same. -/
def GrS.turned (S : GrS) (j : Nat) (m : Nd) : GrS := { S with nl := S.nl.set j (some m) }

theorem GrS.turned_g {S : GrS} {j : Nat} {m : Nd} (hj : j < S.nl.length) : (S.turned j m).g = S.g.set j m := by
  unfold GrS.turned GrS.g Gr.set
  simp only [Gr.mk.injEq, and_true, true_and]
  funext i
  rw [List.getD_eq_getElem?_getD, List.getD_eq_getElem?_getD, List.getElem?_set]
  by_cases e : j = i
  · subst e
    rw [if_pos rfl, if_pos hj, if_pos rfl]
    rfl
  · have : ¬ i = j := fun e' => e e'.symm
    rw [if_neg e, if_neg this]

theorem GrAt.turned {O : Nat → Prop} {w w1 w2 w3 : World} {gb : Nat} {S : GrS} {ov nv fv : Value} {mb rb : Nat} {M M1 M2 R : List (Value × Value)} (h : GrAt O w gb S ov nv fv mb rb M R) (hinj : ∀ {i j n}, S.g.node i = some n → S.g.node j = some n → i = j)
    {j nb ncap : Nat} {n m : Nd} (hn : S.g.node j = some n) (hm : ∀ i, i ≠ j → S.g.node i ≠ some m) (en : nv = .slice (some ⟨nb, 0, none⟩) S.nl.length ncap)
    (t1 : MapTurn w w1 mb) (q1 : ∀ p, p ∈ M1 ↔ p ∈ M ∧ p.1 ≠ ndKey n) (a2 : MapIs Try.prog 97 w2 mb M2) (t2 : MapTurn w1 w2 mb) (q2 : ∀ p, p ∈ M2 ↔ p = (ndKey m, natv j) ∨ (p ∈ M1 ∧ p.1 ≠ ndKey m))
    (e3 : w3 = ((w2.setCell ⟨nb, j * 3, none⟩ (.int .i64 (m.v : Int))).setCell ⟨nb, j * 3 + 1, none⟩ (.int .i64 (m.t : Int))).setCell ⟨nb, j * 3 + 2, none⟩ (.int .i64 (m.e : Int))) :
    Only O w w3 ∧ GrAt O w3 gb (S.turned j m) ov nv fv mb rb M2 R := by
  obtain ⟨nb', ncap', ncur, en', hnb, hob, hngb, hncap, hncm, hncs, hntk⟩ := h.nodesBlock
  rw [en] at en'
  simp only [Value.slice.injEq, Option.some.injEq, Addr.mk.injEq, and_true, true_and] at en'
  obtain ⟨rfl, rfl⟩ := en'
  have hj := GrS.node_lt hn
  have hmaps := h.maps_ne
  have hgl := h.lt gb h.self
  have hnbl : nb < w.heap.size := (Array.getElem?_eq_some_iff.1 hnb).1
  have s1 := t1.2
  have s2 := t2.2
  have b12 : ∀ b, b < w.heap.size → b ≠ mb → w2.heap[b]? = w.heap[b]? := fun b hb hne => (t2.1.block b (by omega) (by simp; exact hne)).trans (t1.1.block b hb (by simp; exact hne))
  have s3 : w3.heap.size = w2.heap.size := by rw [e3]; simp [World.setCell]
  have b3 : ∀ b, b ≠ nb → w3.heap[b]? = w2.heap[b]? := by
    intro b hb
    rw [e3, Below.heap_setCell _ _ _ _ hb, Below.heap_setCell _ _ _ _ hb, Below.heap_setCell _ _ _ _ hb]
  have hmg : mb ≠ gb := (hmaps gb _ _ _ h.cells).1.symm
  have hmn : mb ≠ nb := (hmaps nb _ _ _ hnb).1.symm
  have hrn : rb ≠ nb := (hmaps nb _ _ _ hnb).2.symm
  have hrlt := h.lt rb h.orr
  have hon : Only O w w3 := by
    have o1 : Only O w w1 := t1.only h.om
    have o2 : Only O w w2 := o1.trans (t2.only h.om) (Grows.refl _ _)
    rw [e3]
    exact ((o2.setCell (p := ⟨nb, j * 3, none⟩) (.inl hob) _).setCell (p := ⟨nb, j * 3 + 1, none⟩) (.inl hob) _).setCell (p := ⟨nb, j * 3 + 2, none⟩) (.inl hob) _
  have hrow : ∀ {v : Value} {xs : List Value}, Row O w 3 v xs → Row O w3 3 v xs := by
    intro v xs hr
    refine hr.same ?_
    intro b hb
    obtain ⟨cur, hc⟩ := hr.block hb
    have hbl := (Array.getElem?_eq_some_iff.1 hc).1
    rw [b3 b (by intro e; subst e; rw [hc] at hnb; simp at hnb), b12 b hbl (hmaps b _ _ _ hc).1]
  have hg := GrS.turned_g (S := S) (m := m) hj
  have hok : ∀ r, (S.turned j m).g.ok r ↔ S.g.ok r := by intro r; rw [hg]; exact Gr.set_ok hn r
  have htab : ∀ r, (S.turned j m).g.tab r = S.g.tab r := by intro r; rw [hg]; rfl
  have hnode : ∀ i, (S.turned j m).g.node i = if i = j then some m else S.g.node i := by intro i; rw [hg]; rfl
  refine ⟨hon, { lt := fun b hb => Nat.lt_of_lt_of_le (h.lt b hb) hon.size, eov := h.eov, self := h.self, om := h.om, orr := h.orr, cells := ?_, order := hrow h.order, nodes := ?_, nin := h.nin, free := hrow h.free, nums := ?_, res := ?_, mok := ?_, rok := ?_, rlen := h.rlen, mr := h.mr, of := h.of, n1 := ?_, nlen := ?_, ol := h.ol, fdup := h.fdup, fok := ?_ }⟩
  · rw [b3 gb hngb.symm, b12 gb hgl hmg.symm]; exact h.cells
  · show w3.ownsRow 0 97 3 nv (S.nl.set j (some m)).length ((S.nl.set j (some m)).flatMap ndCells)
    rw [List.length_set, en]
    have hnc : w3.heap[nb]? = some (.cells (((ncur.setIfInBounds (j * 3) (.int .i64 (m.v : Int))).setIfInBounds (j * 3 + 1) (.int .i64 (m.t : Int))).setIfInBounds (j * 3 + 2) (.int .i64 (m.e : Int))) 97 (0, 0)) := by
      rw [e3]
      exact heap_setCell_at (heap_setCell_at (heap_setCell_at ((b12 nb hnbl hmn.symm).trans hnb)))
    refine ⟨by rw [flat3_len, List.length_set], .inr ⟨nb, ncap, _, rfl, Nat.zero_le _, hnc, hncap, hncm, by simpa using hncs, ?_⟩⟩
    rw [← flat3_set _ _ hj, ← hntk]
    simp only [Array.toList_setIfInBounds]
    rw [List.take_set, List.take_set, List.take_set]
  · exact a2.same (b3 mb hmn)
  · refine h.res.same ?_
    rw [b3 rb hrn, b12 rb hrlt h.mr.symm]
  · intro p
    rw [q2]
    constructor
    · rintro (rfl | ⟨hp, hk⟩)
      · exact ⟨j, m, by rw [hnode, if_pos rfl], rfl⟩
      · obtain ⟨hp, hk2⟩ := (q1 p).1 hp
        obtain ⟨i, n', hn', rfl⟩ := (h.mok p).1 hp
        have hij : i ≠ j := by
          intro e
          subst e
          rw [hn] at hn'
          cases hn'
          exact hk2 rfl
        exact ⟨i, n', by rw [hnode, if_neg hij]; exact hn', rfl⟩
    · rintro ⟨i, n', hn', rfl⟩
      rw [hnode] at hn'
      by_cases e : i = j
      · rw [if_pos e] at hn'
        cases hn'
        rw [e]
        exact .inl rfl
      · rw [if_neg e] at hn'
        refine .inr ⟨(q1 _).2 ⟨(h.mok _).2 ⟨i, n', hn', rfl⟩, ?_⟩, ?_⟩
        · intro ek
          have := ndKey_inj ek
          subst this
          exact e (hinj hn' hn)
        · intro ek
          have := ndKey_inj ek
          subst this
          exact hm i e hn'
  · intro p hp
    obtain ⟨f, g, q, r, e, o1, o2, o3, o4, ht⟩ := h.rok p hp
    exact ⟨f, g, q, r, e, (hok f).2 o1, (hok g).2 o2, (hok q).2 o3, (hok r).2 o4, by rw [htab, htab, htab, htab]; exact ht⟩
  · show 1 ≤ (S.nl.set j (some m)).length
    rw [List.length_set]; exact h.n1
  · show (S.nl.set j (some m)).length ≤ 100000
    rw [List.length_set]; exact h.nlen
  · intro i hi
    obtain ⟨c1, c2, c3⟩ := h.fok i hi
    have hij : i ≠ j := by intro e; subst e; rw [hn] at c3; cases c3
    refine ⟨c1, ?_, by rw [hnode, if_neg hij]; exact c3⟩
    show i < (S.nl.set j (some m)).length
    rw [List.length_set]; exact c2

end Go.Proofs.Ytebfmcafmojlaaa

/-
  graph: turn: its closure.
-/
namespace Go.Proofs.Ytebfmcafmojlaaa
open Go.RowKit Go.Maps
set_option linter.unusedSimpArgs false
set_option linter.unusedVariables false

/-- Where no number is free all but the first bear a node. -/
theorem GrS.Full.len {S : GrS} (h : S.Full) (h0 : S.free = []) : S.nl.length ≤ S.nums.length + 1 := by
  have h1 : (List.range S.nl.length).length ≤ (0 :: S.nums).length := by
    refine List.Nodup.length_le_of_subset List.nodup_range ?_
    intro i hi
    rw [List.mem_range] at hi
    by_cases i0 : i = 0
    · subst i0; simp
    · refine List.mem_cons_of_mem _ (GrS.mem_nums.2 ?_)
      cases c : S.g.node i with
      | some n => exact ⟨n, c⟩
      | none =>
        have := h i (by omega) hi c
        rw [h0] at this
        simp at this
  simpa using h1

theorem GrS.Added.cnt {S S' : GrS} {n : Nd} {i : Nat} (h : S.Added n i S') : S'.nums.length ≤ S.nums.length + 1 := by
  have h1 : S'.nums.length ≤ (i :: S.nums).length := by
    refine List.Nodup.length_le_of_subset (nums_nodup S') ?_
    intro j hj
    obtain ⟨m, hm⟩ := GrS.mem_nums.1 hj
    by_cases e : j = i
    · subst e; exact List.mem_cons_self ..
    · refine List.mem_cons_of_mem _ (GrS.mem_nums.2 ⟨m, ?_⟩)
      rw [h.g] at hm
      simpa [Gr.add, e] using hm
  simpa using h1

/-- A part that was made. -/
structure GrS.Part (S S' : GrS) (x y r : Nat) (F : Tab) : Prop where
  ext : S.g.Ext S'.g
  sm : S'.g.Sm (exy x y)
  ok : S'.g.ok r
  tab : S'.g.tab r = F
  cnt : S'.nums.length ≤ S.nums.length + 1
  nl : S'.nl.length = S.nl.length ∨ S'.nl.length ≤ S'.nums.length + 1
  full : S'.Full
  ov : S'.ov = S.ov
  new : ∀ i n, S'.g.node i = some n → S.g.node i = some n ∨ hangs (S'.g.sem i) y = false
  le : S.nl.length ≤ S'.nl.length

theorem part_of_join {S S' : GrS} {l x y t e r : Nat} (k : S.g.Sm (exy x y)) (two : S.g.Two l x y) (hF : S.Full) (ht : S.g.ok t) (he : S.g.ok e) (ft : ∀ u ∈ S.g.order, S.g.idx u ≤ l + 1 → hangs (S.g.tab t) u = false) (fe : ∀ u ∈ S.g.order, S.g.idx u ≤ l + 1 → hangs (S.g.tab e) u = false) (hj : JoinPost S x t e r S') :
    S.Part S' x y r (iteT (mask x) (S.g.tab t) (S.g.tab e)) := by
  rcases hj with ⟨hte, rfl, rfl⟩ | ⟨hte, i, hi, rfl, rfl⟩ | ⟨hte, hnew, i, rfl, ha⟩
  · subst hte
    exact ⟨Gr.Ext.refl _, k, ht, (iteT_same _ _).symm, by omega, .inl rfl, hF, rfl, fun i n h => .inl h, Nat.le_refl _⟩
  · obtain ⟨h1, h2⟩ := k.join_found hi
    exact ⟨Gr.Ext.refl _, k, h1, h2, by omega, .inl rfl, hF, rfl, fun i n h => .inl h, Nat.le_refl _⟩
  · obtain ⟨h1, h2, h3⟩ := k.join_new two ht he hte ft fe ha.i0 ha.none hnew
    have hF' := ha.compl hF
    rw [← ha.g] at h1 h2 h3
    refine ⟨by rw [ha.g]; exact S.g.add_ext ha.i0 ha.none, h1, h2, h3, ha.cnt, ?_, hF', ha.ov, ?_, ha.le⟩
    · rcases ha.full with e1 | e1
      · exact .inr (hF'.len e1)
      · exact .inl e1
    · intro a m hm
      rw [ha.g] at hm ⊢
      by_cases e1 : a = i
      · right
        have hy6 := k.lt6 y two.hy
        have q1 : hangs (S.g.tab (joinN x t e).t) y = false := (hangs_half (show (joinN x t e).t / 2 = t / 2 by show (t - t % 2) / 2 = t / 2; omega) hy6).trans (ft y two.hy (by rw [two.iy]; exact Nat.le_refl _))
        have q2 : hangs (S.g.tab (joinN x t e).e) y = false := (hangs_half (show (joinN x t e).e / 2 = e / 2 by show tl e t / 2 = e / 2; exact tl_half _ _) hy6).trans (fe y two.hy (by rw [two.iy]; exact Nat.le_refl _))
        have q3 : (S.g.add i (joinN x t e)).sem a = iteT (mask x) (S.g.tab (joinN x t e).t) (S.g.tab (joinN x t e).e) := by rw [e1]; simp [Gr.add]; rfl
        rw [q3]
        exact hangs_iteT _ _ _ _ (k.lt6 x two.hx) hy6 (fun e => two.ne e.symm) q1 q2
      · left
        simpa [Gr.add, e1] using hm

structure TurnBox (O : Nat → Prop) (w : World) (b3 b6 b5 gb l : Nat) (n : Nd) : Prop where
  n3 : ¬ O b3
  n6 : ¬ O b6
  n5 : ¬ O b5
  l3 : b3 < w.heap.size
  l6 : b6 < w.heap.size
  l5 : b5 < w.heap.size
  c3 : w.cell? ⟨b3, 0, none⟩ = some (.pointer (some ⟨gb, 0, none⟩))
  o0 : w.cell? ⟨b6, 0, none⟩ = some (.int .i64 (n.v : Int))
  o1 : w.cell? ⟨b6, 1, none⟩ = some (.int .i64 (n.t : Int))
  o2 : w.cell? ⟨b6, 2, none⟩ = some (.int .i64 (n.e : Int))
  c5 : w.cell? ⟨b5, 0, none⟩ = some (.int .i64 (l : Int))

theorem TurnBox.step {O O1 : Nat → Prop} {w w1 : World} {b3 b6 b5 gb l : Nat} {n : Nd} (B : TurnBox O w b3 b6 b5 gb l n) (ho : Only O w w1) (hg : Grows w O O1) : TurnBox O1 w1 b3 b6 b5 gb l n := by
  have q : ∀ b, ¬ O b → b < w.heap.size → ¬ O1 b := fun b h1 h2 h3 => (hg b h3).elim h1 (fun e => by omega)
  exact ⟨q _ B.n3 B.l3, q _ B.n6 B.l6, q _ B.n5 B.l5, Nat.lt_of_lt_of_le B.l3 ho.size, Nat.lt_of_lt_of_le B.l6 ho.size, Nat.lt_of_lt_of_le B.l5 ho.size, (ho.cell (p := ⟨b3, 0, none⟩) B.n3 B.l3).trans B.c3, (ho.cell (p := ⟨b6, 0, none⟩) B.n6 B.l6).trans B.o0, (ho.cell (p := ⟨b6, 1, none⟩) B.n6 B.l6).trans B.o1, (ho.cell (p := ⟨b6, 2, none⟩) B.n6 B.l6).trans B.o2, (ho.cell (p := ⟨b5, 0, none⟩) B.n5 B.l5).trans B.c5⟩

def PartPost (O : Nat → Prop) (w : World) (gb : Nat) (S : GrS) (x y : Nat) (F : Tab) (e : Ending) (w' : World) : Prop := ∃ r S', e = .returned (.int .i64 (r : Nat)) ∧ GrStep O w gb w' S' ∧ S.Part S' x y r F

theorem wrap_six (n : Int) (h : 0 ≤ n ∧ n ≤ 1000) : IntKind.i64.wrap n = n := by rw [IntKind.wrap_i64]; omega
theorem succ_cast (l : Nat) : ((l + 1 : Nat) : Int) = (l : Int) + 1 := by omega

set_option maxHeartbeats 1000000 in
set_option maxRecDepth 10000 in
theorem graphTurnBody_is {O : Nat → Prop} {w : World} {gb : Nat} {S : GrS} {l x y : Nat} (hG : GrIs O w gb S) (k : S.g.Sm (exy x y)) (two : S.g.Two l x y) (hF : S.Full) {i : Nat} {n : Nd} (hn : S.g.node i = some n) (hx : n.v = x) (b : Bool) (hnl : S.nl.length + 1 ≤ 100000) {b3 b6 b5 : Nat} (B : TurnBox O w b3 b6 b5 gb l n) :
    Calls Try.prog 81 #[.bool b, .pointer (some ⟨b3, 0, none⟩), .pointer (some ⟨b6, 0, none⟩), .pointer (some ⟨b5, 0, none⟩)] w (PartPost O w gb S x y (given (S.g.sem i) y b)) := by
  have hy6 := k.lt6 y two.hy
  have hx6 := k.lt6 x two.hx
  have hlt : l + 1 < S.g.order.length := by rw [← two.iy]; exact List.idxOf_lt_length_of_mem two.hy
  have hol : S.g.order.length ≤ 6 := hG.ol
  have hkt := k.kid_free two hn hx (c := n.t) (.inl rfl)
  have hke := k.kid_free two hn hx (c := n.e) (.inr rfl)
  have hpt := k.part two hkt.1 hkt.2 b
  have hpe := k.part two hke.1 hke.2 b
  have hbt : ∀ wq, Below w.heap.size w wq → Calls Try.prog 64 #[.pointer (some ⟨gb, 0, none⟩), .int .i64 (n.t : Int), .int .i64 ((l : Int) + 1), .bool b] wq fun e w' => e = .returned (.int .i64 (S.g.br n.t (l + 1) b : Nat)) ∧ Below wq.heap.size wq w' := by
    intro wq hb
    have := graphBranch2_is (hG.below hb) k n.t (l + 1) b hkt.1 hlt
    rw [succ_cast] at this
    exact this
  have hbe : ∀ wq, Below w.heap.size w wq → Calls Try.prog 64 #[.pointer (some ⟨gb, 0, none⟩), .int .i64 (n.e : Int), .int .i64 ((l : Int) + 1), .bool b] wq fun e w' => e = .returned (.int .i64 (S.g.br n.e (l + 1) b : Nat)) ∧ Below wq.heap.size wq w' := by
    intro wq hb
    have := graphBranch2_is (hG.below hb) k n.e (l + 1) b hke.1 hlt
    rw [succ_cast] at this
    exact this
  have hjoin : ∀ wq, Below w.heap.size w wq → Calls Try.prog 61 #[.pointer (some ⟨gb, 0, none⟩), .int .i64 (n.v : Int), .int .i64 (S.g.br n.t (l + 1) b : Nat), .int .i64 (S.g.br n.e (l + 1) b : Nat)] wq (fun e w' => ∃ r : Nat, e = .returned (.int .i64 (r : Int)) ∧ PartPost O w gb S x y (given (S.g.sem i) y b) e w' ∧ Only O w w') := by
    intro wq hb
    refine (graphJoin_is (hG.below hb) n.v (S.g.br n.t (l + 1) b) (S.g.br n.e (l + 1) b) (by rw [hx]; omega) (hG.bound hpt.1) (hG.bound hpe.1) hnl).mono ?_
    rintro e w' ⟨r, S', he, hs, hj⟩
    rw [hx] at hj
    have hp := part_of_join k two hF hpt.1 hpe.1 hpt.2.2 hpe.2.2 hj
    have hFq : iteT (mask x) (S.g.tab (S.g.br n.t (l + 1) b)) (S.g.tab (S.g.br n.e (l + 1) b)) = given (S.g.sem i) y b := by
      rw [hpt.2.1, hpe.2.1, k.is hn, hx, given_iteT _ _ _ _ _ hy6, given_mask_ne _ _ _ hx6 hy6 (fun e => two.ne e.symm)]
    rw [hFq] at hp
    have hs' := hs.pre hb
    exact ⟨r, he, ⟨r, S', he, hs', hp⟩, hs'.1⟩
  generalize S.g.br n.t (l + 1) b = t' at hbt hjoin
  generalize S.g.br n.e (l + 1) b = e' at hbe hjoin
  obtain ⟨n3, n6, n5, l3, l6, l5, c3, o0, o1, o2, c5⟩ := B
  have hbel := (Below.refl w.heap.size w).drew
  generalize (PartPost O w gb S x y (given (S.g.sem i) y b)) = Post at hjoin ⊢
  have hl6 : l < 6 := by omega
  have hwr : IntKind.i64.wrap ((l : Int) + 1) = (l : Int) + 1 := wrap_six _ (by omega)
  obtain ⟨nv, nt, ne⟩ := n
  dsimp only at *
  clear hG k two hF hn hx hnl hy6 hx6 hlt hol hkt hke hpt hpe
  go_enter Try.func81, Try.ntmps81
  go_wp2_with fail
  go_region_held (fun w' => w'.cell? ⟨b3, 0, none⟩ = some (.pointer (some ⟨gb, 0, none⟩)) ∧ w'.cell? ⟨b6, 0, none⟩ = some (.int .i64 (nv : Int)) ∧ w'.cell? ⟨b6, 1, none⟩ = some (.int .i64 (nt : Int)) ∧ w'.cell? ⟨b6, 2, none⟩ = some (.int .i64 (ne : Int)) ∧ w'.cell? ⟨b5, 0, none⟩ = some (.int .i64 (l : Int))) (go_keep) (first
    | (go_at_call 64; refine (hbt _ hbel).mono ?_; clear hbt; rintro e wf ⟨rfl, hb1⟩; replace hbel := hbel.trans (hb1.mono hbel.size); clear hb1; have x3f := (hbel.cell (p := ⟨b3, 0, none⟩) l3).trans c3; have x0f := (hbel.cell (p := ⟨b6, 0, none⟩) l6).trans o0; have x1f := (hbel.cell (p := ⟨b6, 1, none⟩) l6).trans o1; have x2f := (hbel.cell (p := ⟨b6, 2, none⟩) l6).trans o2; have x5f := (hbel.cell (p := ⟨b5, 0, none⟩) l5).trans c5)
    | (go_at_call 64; refine (hbe _ hbel).mono ?_; clear hbe; rintro e wg ⟨rfl, hb1⟩; replace hbel := hbel.trans (hb1.mono hbel.size); clear hb1; have x3g := (hbel.cell (p := ⟨b3, 0, none⟩) l3).trans c3; have x0g := (hbel.cell (p := ⟨b6, 0, none⟩) l6).trans o0; have x1g := (hbel.cell (p := ⟨b6, 1, none⟩) l6).trans o1; have x2g := (hbel.cell (p := ⟨b6, 2, none⟩) l6).trans o2; have x5g := (hbel.cell (p := ⟨b5, 0, none⟩) l5).trans c5)
    | (go_at_call 61; refine (hjoin _ hbel).mono ?_; clear hjoin; rintro e w4 ⟨r, rfl, hp, ho⟩; have x3 := (ho.cell (p := ⟨b3, 0, none⟩) n3 l3).trans c3; have x0 := (ho.cell (p := ⟨b6, 0, none⟩) n6 l6).trans o0; have x1 := (ho.cell (p := ⟨b6, 1, none⟩) n6 l6).trans o1; have x2 := (ho.cell (p := ⟨b6, 2, none⟩) n6 l6).trans o2; have x5 := (ho.cell (p := ⟨b5, 0, none⟩) n5 l5).trans c5))
  all_goals
    go_wp2
    exact hp

end Go.Proofs.Ytebfmcafmojlaaa

