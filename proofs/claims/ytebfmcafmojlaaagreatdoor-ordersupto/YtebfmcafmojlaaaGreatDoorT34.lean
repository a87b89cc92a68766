/-
  maps.Clone of the nodes' numbers.
-/
import Derived.Laws.Externs
import Derived.MapKept
import Derived.Test.YtebfmcafmojlaaaGreatDoorT33
namespace Go.Proofs.YtebfmcafmojlaaaGreatDoor
open Go.RowKit Go.Maps
set_option linter.unusedSimpArgs false
set_option linter.unusedVariables false

theorem run_equal_map_nil {P : Program} (w : World) (d : Nat) (t k e : TypeId) (p : Option Nat) (h : P.underlying t = some (.map k e)) : (Op.equalIn (d + 1) t (.map p) (.map none)).run P w = .ok p.isNone w := by
  cases p <;> simp [Op.equalIn, run_underlying h]
theorem run_eq_map_nil {P : Program} (w : World) (t k e : TypeId) (p : Option Nat) (h : P.underlying t = some (.map k e)) : (binOp .eql t (.map p) (.map none)).run P w = .ok (.bool p.isNone) w := by
  simp only [binOp]
  simp [show Op.equal t (.map p) (.map none) = Op.equalIn (9999 + 1) t (.map p) (.map none) from rfl, run_equal_map_nil w 9999 t k e p h]
theorem run_assert_map {P : Program} (w : World) (t xT k e : TypeId) (v : Value) (h : P.underlying t = some (.map k e)) : (Instr.typeAssert (.iface t v) xT t false).run P w = .ok v w := by
  simp [Instr.typeAssert, run_underlying h, go_sem, Result.andThen]
theorem run_clone_map {P : Program} (w : World) {r : Nat} {es : Array MapEntry} {clock : Nat} (t : TypeId) (hb : w.heap[r]? = some (.map es clock)) :
    (Extern.MapsClone.clone #[.iface t (.map (some r))]).run P w = .ok (.iface t (.map (some w.heap.size))) (w.alloc (.map es clock)) := by
  have e : Extern.MapsClone.clone #[.iface t (.map (some r))] = (getObj r >>= fun o => match o with
      | .map entries clock => (newObj (.map entries clock) >>= fun n => pure (.iface t (.map (some n))))
      | _ => stuck "maps.clone: a map expected") := rfl
  rw [e]
  simp [MapKept.run_getObj_map hb, Result.andThen, go_sem]

set_option maxHeartbeats 2000000 in
set_option maxRecDepth 100000 in
theorem mapsClone_is {w : World} {b : Nat} {M : List (Value × Value)} (h : MapIs Tryz.prog 214 w b M) :
    Calls Tryz.prog 145 #[.map (some b)] w fun e w' => e = .returned (.map (some w.heap.size)) ∧ MapIs Tryz.prog 214 w' w.heap.size M ∧ Below w.heap.size w w' := by
  obtain ⟨es, clock, hb, hs, hk, hM⟩ := h
  have hq := fun w => run_eq_map_nil (P := Tryz.prog) w 153 _ _ (some b) Tryz.underlying153
  go_enter Tryz.func145, Tryz.ntmps145
  go_wp2
  rw [run_callFunc_extern Tryz.func166 (by kernel_rfl) (by kernel_rfl) (by kernel_rfl) (e := Extern.MapsClone.clone) (by kernel_rfl), run_clone_map w 153 hb]
  simp only [Result.andThen]
  rw [Oper.upon_value]
  go_wp2
  rw [run_assert_map _ 153 _ _ _ _ Tryz.underlying153]
  simp only [Result.andThen]
  rw [Oper.upon_value]
  go_wp2
  go_ret
  exact ⟨rfl, ⟨es, clock, (MapKept.heap_alloc w _).1, hs, hk, hM⟩, (Below.refl _ w).alloc (Nat.le_refl _) _⟩

end Go.Proofs.YtebfmcafmojlaaaGreatDoor

/-
  graph: Clone: what it makes.
-/
namespace Go.Proofs.YtebfmcafmojlaaaGreatDoor
open Go.RowKit Go.Maps
set_option linter.unusedSimpArgs false
set_option linter.unusedVariables false

def ClonePost (w : World) (S : GrS) (e : Ending) (w' : World) : Prop :=
  ∃ gb' ov', e = .returned (.pointer (some ⟨gb', 0, none⟩)) ∧ w.heap.size ≤ gb' ∧ Below w.heap.size w w' ∧ GrIs (fun b => w.heap.size ≤ b ∧ b < w'.heap.size) w' gb' { S with ov := ov' }

theorem cloneG_post {O : Nat → Prop} {w : World} {gb : Nat} {S : GrS} {ov nv fv : Value} {mb rb : Nat} {M R : List (Value × Value)} (hA : GrAt O w gb S ov nv fv mb rb M R) {Wp : World} (hb : Below w.heap.size w Wp) {v1 v2 v4 : Value} {m r : Nat}
    (h1 : Wp.ownsRow w.heap.size 3 1 v1 S.order.length (S.order.map natv)) (h2 : Wp.ownsRow w.heap.size 214 3 v2 S.nl.length (S.nl.flatMap ndCells)) (h4 : Wp.ownsRow w.heap.size 3 1 v4 S.free.length (S.free.map natv)) (hne : v1.ownBlock = none ∨ v1.ownBlock ≠ v4.ownBlock)
    (hm : MapIs Tryz.prog 214 Wp m M) (hml : w.heap.size ≤ m) (hr : MapIs Tryz.prog 163 Wp r []) (hrl : w.heap.size ≤ r) (hmr : m ≠ r) {W6 : World} (hW6 : W6 = Wp.alloc (.cells #[v1, v2, .map (some m), v4, .map (some r)] 156)) :
    ClonePost w S (.returned (.pointer (some ⟨Wp.heap.size, 0, none⟩))) W6 := by
  have hb6 : Below Wp.heap.size Wp W6 := by rw [hW6]; exact (Below.refl _ Wp).alloc (Nat.le_refl _) _
  have hs6 : W6.heap.size = Wp.heap.size + 1 := by rw [hW6]; simp
  have hc6 : W6.heap[Wp.heap.size]? = some (.cells #[v1, v2, .map (some m), v4, .map (some r)] 156 (0, 0)) := by rw [hW6]; exact heap_alloc_new _ _
  have hbs := hb.size
  have hmlt := hm.lt
  have hrlt := hr.lt
  have o1 := owns_below h1 hb6 (Nat.le_refl _)
  have o2 := owns_below h2 hb6 (Nat.le_refl _)
  have o4 := owns_below h4 hb6 (Nat.le_refl _)
  have hin : ∀ {e : TypeId} {size : Nat} {v : Value} {n : Nat} {xs : List Value}, W6.ownsRow w.heap.size e size v n xs → InO (fun b => w.heap.size ≤ b ∧ b < W6.heap.size) v := fun ho k hk => ho.lt k hk
  refine ⟨Wp.heap.size, v1, rfl, hbs, hb.trans (hb6.mono hbs), v1, v2, v4, m, r, M, [], ?_⟩
  have hg : ({ S with ov := v1 } : GrS).g = S.g := rfl
  refine { lt := fun b hb' => hb'.2, eov := rfl, self := ⟨hbs, by omega⟩, om := ⟨hml, by omega⟩, orr := ⟨hrl, by omega⟩, cells := hc6, order := ⟨?_, hin o1⟩, nodes := ownsRow_base o2 (Nat.zero_le _), nin := hin o2, free := ⟨?_, hin o4⟩, nums := hm.same (hb6.block m hmlt), res := hr.same (hb6.block r hrlt), mok := hA.mok, rok := fun p hp => by simp at hp, rlen := by simp, mr := hmr, of := hne, n1 := hA.n1, nlen := hA.nlen, ol := hA.ol, fdup := hA.fdup, fok := hA.fok }
  · rw [List.length_map]
    exact ownsRow_base o1 (Nat.zero_le _)
  · rw [List.length_map]
    exact ownsRow_base o4 (Nat.zero_le _)

theorem GrAt.freeLen {O : Nat → Prop} {w : World} {gb : Nat} {S : GrS} {ov nv fv : Value} {mb rb : Nat} {M R : List (Value × Value)} (hA : GrAt O w gb S ov nv fv mb rb M R) : S.free.length ≤ 100000 := by
  have h1 := hA.fdup.length_le_of_subset (l₂ := List.range S.nl.length) (by
    intro i hi
    exact List.mem_range.2 (hA.fok i hi).2.1)
  rw [List.length_range] at h1
  have := hA.nlen
  omega

theorem nodeCells_one (l : List (Option Nd)) : ∀ u ∈ l.flatMap ndCells, u.oneCell' = true := by
  intro u hu
  obtain ⟨n, _, hn⟩ := List.mem_flatMap.1 hu
  cases n with
  | none => simp [ndCells] at hn; subst hn; rfl
  | some n =>
    simp [ndCells] at hn
    rcases hn with rfl | rfl | rfl <;> rfl

end Go.Proofs.YtebfmcafmojlaaaGreatDoor

/-
  graph: Clone.
-/
namespace Go.Proofs.YtebfmcafmojlaaaGreatDoor
open Go.RowKit Go.Maps
set_option linter.unusedSimpArgs false
set_option linter.unusedVariables false

theorem MapIs.carry {P : Program} {k : TypeId} {w w' : World} {b : Nat} {L : List (Value × Value)} (h : MapIs P k w b L) (hb : Below w.heap.size w w') : MapIs P k w' b L := h.same (hb.block b h.lt)

theorem clone_end {O : Nat → Prop} {w : World} {gb : Nat} {S : GrS} {ov nv fv : Value} {mb rb : Nat} {M R : List (Value × Value)} (hA : GrAt O w gb S ov nv fv mb rb M R) {w1 w2 w3 w4 Wp W6 : World} {v1 v2 v4 : Value} {m r B2 B4 : Nat} (f1 : Below w.heap.size w w1) (k2 : Below w1.heap.size w1 w2) (k3 : Below w2.heap.size w2 w3) (k4 : Below w3.heap.size w3 w4) (k5 : Below w4.heap.size w4 Wp)
    {B1 : Nat} (hB1 : w.heap.size ≤ B1) (h1 : w1.ownsRow B1 3 1 v1 S.order.length (S.order.map natv)) (hB2 : w1.heap.size ≤ B2) (h2 : w2.ownsRow B2 214 3 v2 S.nl.length (S.nl.flatMap ndCells)) (hm : MapIs Tryz.prog 214 w3 m M) (hml : w2.heap.size ≤ m) (hB4 : w3.heap.size ≤ B4) (h4 : w4.ownsRow B4 3 1 v4 S.free.length (S.free.map natv))
    (hr : MapIs Tryz.prog 163 Wp r []) (hrl : w.heap.size ≤ r) (hmr : m ≠ r) (hW6 : W6 = Wp.alloc (.cells #[v1, v2, .map (some m), v4, .map (some r)] 156)) : ClonePost w S (.returned (.pointer (some ⟨Wp.heap.size, 0, none⟩))) W6 := by
  have s1 := f1.size
  have s2 := k2.size
  have s3 := k3.size
  have s4 := k4.size
  have s5 := k5.size
  have hbp : Below w.heap.size w Wp := (((f1.trans (k2.mono s1)).trans (k3.mono (by omega))).trans (k4.mono (by omega))).trans (k5.mono (by omega))
  have o1 := owns_below (owns_below (owns_below (owns_below h1 k2 (Nat.le_refl _)) k3 (Nat.le_refl _)) k4 (Nat.le_refl _)) k5 (Nat.le_refl _)
  have o2 := owns_below (owns_below (owns_below h2 k3 (Nat.le_refl _)) k4 (Nat.le_refl _)) k5 (Nat.le_refl _)
  have o4 := owns_below h4 k5 (Nat.le_refl _)
  refine cloneG_post hA hbp (ownsRow_base o1 hB1) (ownsRow_base o2 (by omega)) (ownsRow_base o4 (by omega)) ?_ ((hm.carry k4).carry k5) (by omega) hr hrl hmr hW6
  cases e1 : v1.ownBlock with
  | none => exact .inl rfl
  | some b =>
    right
    intro e
    have q1 := (h1.lt b e1).2
    have q4 := (h4.lt b e.symm).1
    omega

set_option maxHeartbeats 2000000 in
set_option maxRecDepth 100000 in
theorem graphClone_is {O : Nat → Prop} {w : World} {gb : Nat} {S : GrS} (hG : GrIs O w gb S) : Calls Tryz.prog 91 #[.pointer (some ⟨gb, 0, none⟩)] w (ClonePost w S) := by
  obtain ⟨ov, nv, fv, mb, rb, M, R, hA⟩ := hG
  obtain ⟨c0, c1, c2, c3, c4⟩ := hA.c
  have hcell : ∀ W, Below w.heap.size w W → W.cell? ⟨gb, 0, none⟩ = some ov ∧ W.cell? ⟨gb, 1, none⟩ = some nv ∧ W.cell? ⟨gb, 2, none⟩ = some (.map (some mb)) ∧ W.cell? ⟨gb, 3, none⟩ = some fv := fun W hb => ⟨(hA.below hb).c.1, (hA.below hb).c.2.1, (hA.below hb).c.2.2.1, (hA.below hb).c.2.2.2.1⟩
  have hcO : ∀ W, Below w.heap.size w W → Calls Tryz.prog 90 #[ov] W fun e w' => ∃ v', e = .returned v' ∧ w'.ownsRow W.heap.size 3 1 v' S.order.length (S.order.map natv) ∧ Below W.heap.size W w' := by
    intro W hb
    have := (hA.below hb).order.1
    rw [List.length_map] at this
    exact slicesCloneI this (by have := hA.ol; omega)
  have hcF : ∀ W, Below w.heap.size w W → Calls Tryz.prog 90 #[fv] W fun e w' => ∃ v', e = .returned v' ∧ w'.ownsRow W.heap.size 3 1 v' S.free.length (S.free.map natv) ∧ Below W.heap.size W w' := by
    intro W hb
    have := (hA.below hb).free.1
    rw [List.length_map] at this
    exact slicesCloneI this hA.freeLen
  have hcN : ∀ W, Below w.heap.size w W → Calls Tryz.prog 144 #[nv] W fun e w' => ∃ v', e = .returned v' ∧ w'.ownsRow W.heap.size 214 3 v' S.nl.length (S.nl.flatMap ndCells) ∧ Below W.heap.size W w' := fun W hb => slicesCloneN (hA.below hb).nodes (nodeCells_one _) hA.nlen
  have hcM : ∀ W, Below w.heap.size w W → Calls Tryz.prog 145 #[.map (some mb)] W fun e w' => e = .returned (.map (some W.heap.size)) ∧ MapIs Tryz.prog 214 w' W.heap.size M ∧ Below W.heap.size W w' := fun W hb => mapsClone_is (hA.below hb).nums
  have HC : Hid (∀ W, Below w.heap.size w W → W.cell? ⟨gb, 0, none⟩ = some ov ∧ W.cell? ⟨gb, 1, none⟩ = some nv ∧ W.cell? ⟨gb, 2, none⟩ = some (.map (some mb)) ∧ W.cell? ⟨gb, 3, none⟩ = some fv) := hcell
  have HO : Hid (∀ W, Below w.heap.size w W → Calls Tryz.prog 90 #[ov] W fun e w' => ∃ v', e = .returned v' ∧ w'.ownsRow W.heap.size 3 1 v' S.order.length (S.order.map natv) ∧ Below W.heap.size W w') := hcO
  have HF : Hid (∀ W, Below w.heap.size w W → Calls Tryz.prog 90 #[fv] W fun e w' => ∃ v', e = .returned v' ∧ w'.ownsRow W.heap.size 3 1 v' S.free.length (S.free.map natv) ∧ Below W.heap.size W w') := hcF
  have HN : Hid (∀ W, Below w.heap.size w W → Calls Tryz.prog 144 #[nv] W fun e w' => ∃ v', e = .returned v' ∧ w'.ownsRow W.heap.size 214 3 v' S.nl.length (S.nl.flatMap ndCells) ∧ Below W.heap.size W w') := hcN
  have HM : Hid (∀ W, Below w.heap.size w W → Calls Tryz.prog 145 #[.map (some mb)] W fun e w' => e = .returned (.map (some W.heap.size)) ∧ MapIs Tryz.prog 214 w' W.heap.size M ∧ Below W.heap.size W w') := hcM
  have HA : Hid (GrAt O w gb S ov nv fv mb rb M R) := hA
  have hmk : ∀ W : World, (Instr.makeMap 154 none).run Tryz.prog W = .ok (.map (some W.heap.size)) (W.alloc (.map #[] 0)) := fun _ => rfl
  have hb0 : Below w.heap.size w w.drew := (Below.refl _ _).drew
  clear hcell hcO hcF hcN hcM hA c4
  go_enter Tryz.func91, Tryz.ntmps91
  go_upto_region 1 with fail
  go_region_held (fun w' => w'.cell? ⟨gb, 0, none⟩ = some ov ∧ w'.cell? ⟨gb, 1, none⟩ = some nv ∧ w'.cell? ⟨gb, 2, none⟩ = some (.map (some mb)) ∧ w'.cell? ⟨gb, 3, none⟩ = some fv) (go_keep) (first
    | (go_at_call 90; refine (HO.out _ (by first | exact hb0 | exact hb0.alloc hb0.size _)).mono ?_; clear HO; rintro e w1 ⟨v1, rfl, ho1, hb1⟩; obtain ⟨a1, p1, rfl⟩ := owns_form ho1; have f1 : Below w.heap.size w w1 := (by first | exact hb0.trans (hb1.mono hb0.size) | exact (hb0.alloc hb0.size _).trans (hb1.mono (hb0.alloc hb0.size _).size)); obtain ⟨q0, q1, q2, q3⟩ := HC.out _ f1)
    | (go_at_call 144; refine (HN.out _ (by first | exact f1 | exact f1.alloc f1.size _)).mono ?_; clear HN; rintro e w2 ⟨v2, rfl, ho2, hb2⟩; obtain ⟨a2, p2, rfl⟩ := owns_form ho2; have k2 : Below w1.heap.size w1 w2 := (by first | exact hb2 | exact ((Below.refl _ _).alloc (Nat.le_refl _) _).trans (hb2.mono (by simp))); have f2 := f1.trans (k2.mono f1.size); obtain ⟨r0, r1, r2, r3⟩ := HC.out _ f2)
    | (go_at_call 145; refine (HM.out _ (by first | exact f2 | exact f2.alloc f2.size _)).mono ?_; clear HM; rintro e w3 ⟨rfl, hm3, hb3⟩; have k3 : Below w2.heap.size w2 w3 := (by first | exact hb3 | exact ((Below.refl _ _).alloc (Nat.le_refl _) _).trans (hb3.mono (by simp))); have f3 := f2.trans (k3.mono f2.size); obtain ⟨t0, t1, t2, t3⟩ := HC.out _ f3)
    | (go_at_call 90; refine (HF.out _ (by first | exact f3 | exact f3.alloc f3.size _)).mono ?_; clear HF; rintro e w4 ⟨v4, rfl, ho4, hb4⟩; obtain ⟨a4, p4, rfl⟩ := owns_form ho4; have k4 : Below w3.heap.size w3 w4 := (by first | exact hb4 | exact ((Below.refl _ _).alloc (Nat.le_refl _) _).trans (hb4.mono (by simp))); have f4 := f3.trans (k4.mono f3.size); obtain ⟨u0, u1, u2, u3⟩ := HC.out _ f4))
  · clear c0 c1 c2 c3 q0 q1 q2 q3 r0 r1 r2 r3 t0 t1 t2 t3 u0 u1 u2 u3
    have s3 := hm3.lt
    have s4 := k4.size
    have z1 := f1.size
    have z2 := k2.size
    have z3 := k3.size
    have hfin := clone_end HA.out f1 k2 k3 k4 ((Below.refl w4.heap.size w4).alloc (Nat.le_refl _) (.map #[] 0)) (by first | exact Nat.le_refl _ | simp) ho1 (by first | exact Nat.le_refl _ | simp) ho2 hm3 (by first | exact Nat.le_refl _ | simp) (by first | exact Nat.le_refl _ | simp) ho4 (MapIs.made Tryz.prog 163 w4) (by omega) (by omega) rfl
    simp only [World.size_alloc] at hfin
    have HFN : Hid _ := hfin
    clear hfin hm3 ho1 ho2 ho4 hb1 hb2 hb3 hb4
    go_wp2_with fail
    go_ret
    exact HFN.out
  · clear c0 c1 c2 c3 q0 q1 q2 q3 r0 r1 r2 r3 t0 t1 t2 t3 u0 u1 u2 u3
    have s3 := hm3.lt
    have z1 := f1.size
    have z2 := k2.size
    have z3 := k3.size
    have hfin := clone_end HA.out f1 k2 k3 k4 (Below.refl w4.heap.size w4) (by first | exact Nat.le_refl _ | simp) ho1 (by first | exact Nat.le_refl _ | simp) ho2 hm3 (by first | exact Nat.le_refl _ | simp) (by first | exact Nat.le_refl _ | simp) ho4 ((MapIs.made Tryz.prog 163 w3).carry hb4) (by omega) (by omega) rfl
    have HFN : Hid _ := hfin
    clear hfin hm3 ho1 ho2 ho4 hb1 hb2 hb3 hb4
    go_wp2_with fail
    go_ret
    exact HFN.out
  · clear c0 c1 c2 c3 q0 q1 q2 q3 r0 r1 r2 r3 t0 t1 t2 t3 u0 u1 u2 u3
    have z1 := f1.size
    have z2 := k2.size
    have hr3 := (MapIs.made Tryz.prog 163 w2).carry hb3
    simp only [World.size_alloc] at hm3
    have hfin := clone_end HA.out f1 k2 k3 k4 (Below.refl w4.heap.size w4) (by first | exact Nat.le_refl _ | simp) ho1 (by first | exact Nat.le_refl _ | simp) ho2 hm3 (by omega) (by first | exact Nat.le_refl _ | simp) ho4 (hr3.carry k4) (by omega) (by omega) rfl
    have HFN : Hid _ := hfin
    clear hfin hm3 hr3 ho1 ho2 ho4 hb1 hb2 hb3 hb4
    go_wp2_with fail
    go_ret
    exact HFN.out
  · clear c0 c1 c2 c3 q0 q1 q2 q3 r0 r1 r2 r3 t0 t1 t2 t3 u0 u1 u2 u3
    have z1 := f1.size
    have hr2 := (MapIs.made Tryz.prog 163 w1).carry hb2
    have s2 := hr2.lt
    have hfin := clone_end HA.out f1 k2 k3 k4 (Below.refl w4.heap.size w4) (by first | exact Nat.le_refl _ | simp) ho1 (by first | exact Nat.le_refl _ | simp) ho2 hm3 (by first | exact Nat.le_refl _ | simp) (by first | exact Nat.le_refl _ | simp) ho4 ((hr2.carry k3).carry k4) (by omega) (by omega) rfl
    have HFN : Hid _ := hfin
    clear hfin hm3 hr2 ho1 ho2 ho4 hb1 hb2 hb3 hb4
    go_wp2_with fail
    go_ret
    exact HFN.out
  · clear c0 c1 c2 c3 q0 q1 q2 q3 r0 r1 r2 r3 t0 t1 t2 t3 u0 u1 u2 u3
    have z2 := k2.size
    have hr1 := (MapIs.made Tryz.prog 163 w.drew).carry hb1
    have s1 : w.heap.size < w1.heap.size := hr1.lt
    have hfin := clone_end HA.out f1 k2 k3 k4 (Below.refl w4.heap.size w4) (by first | exact Nat.le_refl _ | simp) ho1 (by first | exact Nat.le_refl _ | simp) ho2 hm3 (by first | exact Nat.le_refl _ | simp) (by first | exact Nat.le_refl _ | simp) ho4 (((hr1.carry k2).carry k3).carry k4) (by first | exact Nat.le_refl _ | simp) (by first | omega | (simp; omega)) rfl
    have HFN : Hid _ := hfin
    clear hfin hm3 hr1 ho1 ho2 ho4 hb1 hb2 hb3 hb4
    go_wp2_with fail
    go_ret
    exact HFN.out

end Go.Proofs.YtebfmcafmojlaaaGreatDoor

/-
  copse: a graph that was moved, and swept by the live handles.
-/
namespace Go.Proofs.YtebfmcafmojlaaaGreatDoor
open Go.RowKit Go.Maps
set_option linter.unusedSimpArgs false
set_option linter.unusedVariables false

/-- Of a graph and the live handles, whatever else the graph holds. -/
structure CopPre (names : List ByteArray) (S : GrS) (L : List (Value × Value)) : Prop where
  k : S.g.Ok
  full : S.Full
  ents : ∀ p ∈ L, ∃ r, p = (natv r, .agg #[]) ∧ S.g.ok r
  c0 : liveH L 0
  c1 : liveH L 1
  order : ∀ v, v ∈ S.order ↔ v < names.length
  olen : S.order.length = names.length
  n6 : names.length ≤ 6
  nlen : S.nl.length ≤ 80000

theorem CopPre.liveOk {names : List ByteArray} {S : GrS} {L : List (Value × Value)} (h : CopPre names S L) {r : Nat} (hr : liveH L r) : S.g.ok r := by
  obtain ⟨r', e, h2⟩ := h.ents _ hr
  have := natv_inj (congrArg Prod.fst e)
  subst this
  exact h2

theorem CopMid.pre {names : List ByteArray} {S : GrS} {L : List (Value × Value)} {X : Nat → Prop} (h : CopMid names S L X) : CopPre names S L :=
  ⟨h.k, h.full, h.ents, h.c0, h.c1, h.order, h.olen, h.n6, h.nlen⟩

theorem CopPre.mid {names : List ByteArray} {S : GrS} {L : List (Value × Value)} (h : CopPre names S L) (hr : ∀ i, S.g.has i → S.g.Reach (liveH L) i) (hc : S.nums.length ≤ 499) : CopMid names S L (fun _ => False) :=
  ⟨h.k, h.full, h.ents, h.c0, h.c1, h.order, h.olen, h.n6, fun _ h => h.elim, fun i hi => (hr i hi).mono (fun _ h => .inl h), h.nlen, hc⟩

theorem CopPre.count {cap : Nat} {names : List ByteArray} {S : GrS} {L : List (Value × Value)} (h : CopPre names S L) (hr : ∀ i, S.g.has i → S.g.Reach (liveH L) i) {Lt : List Tab} (hL : Lists (copC cap names S L) Lt) : (allT S.order Lt).length = S.nums.length := by
  refine h.k.count_tabs (R := liveH L) Lt ?_ ?_ S.nums_nodup ?_
  · intro r hr
    refine ⟨h.liveOk hr, ?_⟩
    by_cases h0 : r / 2 = 0
    · exact .inl h0
    · right
      have := (hL (S.g.tab r)).1 ⟨r, copC_T.2 ⟨hr, rfl⟩⟩
      rcases this with e | e | e
      · exact e
      · exfalso
        have := h.k.same (h.liveOk hr) (.inl rfl : S.g.ok 1) (e.trans h.k.tab1.symm)
        omega
      · exfalso
        have := h.k.same (h.liveOk hr) (.inl rfl : S.g.ok 0) (e.trans h.k.tab0.symm)
        omega
  · intro f hf
    obtain ⟨r, hr⟩ := (hL f).2 (.inl hf)
    obtain ⟨h1, h2⟩ := copC_T.1 hr
    exact ⟨r, h.liveOk h1, .inr h1, h2⟩
  · intro i
    constructor
    · intro hi
      obtain ⟨n, hn⟩ := GrS.mem_nums.1 hi
      exact hr i ⟨n, hn⟩
    · intro hi
      obtain ⟨n, hn⟩ := hi.1
      exact GrS.mem_nums.2 ⟨n, hn⟩

theorem swept_pre {names : List ByteArray} {S S' : GrS} {L : List (Value × Value)} {A : List Bool} {xs : List (RefT S.g)} (h : CopPre names S L) (hs : S.Swept S' A) (hm : MarkedAll S.g A xs) (hx : ∀ z : Int, (∃ x ∈ xs, ((x.1 : Nat) : Int) = z) ↔ ∃ r : Nat, z = r ∧ liveH L r) :
    CopPre names S' L ∧ (∀ r, S'.g.tab r = S.g.tab r) ∧ (∀ i, S'.g.has i → S'.g.Reach (liveH L) i) := by
  have hlx : ∀ r, liveH L r → ∃ x ∈ xs, x.1 = r := by
    intro r hr
    obtain ⟨x, h1, h2⟩ := (hx r).2 ⟨r, rfl, hr⟩
    exact ⟨x, h1, by omega⟩
  have hxl : ∀ x ∈ xs, liveH L x.1 := by
    intro x hx'
    obtain ⟨r, h1, h2⟩ := (hx (x.1 : Nat)).1 ⟨x, hx', rfl⟩
    have : x.1 = r := by omega
    rw [this]; exact h2
  have horder : S'.g.order = S.g.order := hs.order
  have hsem : S'.g.sem = S.g.sem := hs.sem
  have htab : ∀ r, S'.g.tab r = S.g.tab r := by intro r; unfold Gr.tab; rw [hsem]
  have hidx : ∀ v, S'.g.idx v = S.g.idx v := by intro v; unfold Gr.idx; rw [horder]
  have hM : ∀ {i n}, S'.g.node i = some n → isM A i ∧ S.g.node i = some n := by
    intro i n hn
    by_cases c : isM A i
    · exact ⟨c, by rw [← hs.kept i c]; exact hn⟩
    · rw [hs.gone i c] at hn; cases hn
  have hhas : ∀ {i}, isM A i → S'.g.has i := by
    intro i c
    obtain ⟨n, hn, _⟩ := hm.kids i c
    exact ⟨n, by rw [hs.kept i c]; exact hn⟩
  have hok : ∀ {r}, (r / 2 = 0 ∨ isM A (r / 2)) → S'.g.ok r := fun hr => hr.imp id hhas
  have hkid : ∀ {i n}, S'.g.node i = some n → S'.g.ok n.t ∧ S'.g.ok n.e := by
    intro i n hn
    obtain ⟨c, hn'⟩ := hM hn
    obtain ⟨n2, h1, h2, h3⟩ := hm.kids i c
    rw [hn'] at h1
    cases h1
    exact ⟨hok h2, hok h3⟩
  have h0 : ¬ isM A 0 := by
    intro c
    obtain ⟨n, h1, _⟩ := hm.kids 0 c
    rw [h.k.zero] at h1; cases h1
  have hlev : ∀ {r}, S'.g.ok r → S'.g.lev r = S.g.lev r := by
    intro r hr
    unfold Gr.lev
    rcases hr with e | ⟨n, e⟩
    · rw [e, h.k.zero, hs.gone 0 h0, horder]
    · rw [e, (hM e).2]
      exact hidx _
  have k' : S'.g.Ok := by
    refine ⟨?_, ?_, hs.gone 0 h0, ?_, ?_, ?_, ?_, ?_, ?_, ?_, ?_, ?_, ?_⟩
    · rw [horder]; exact h.k.nodup
    · rw [horder]; exact h.k.lt6
    · rw [hsem]; exact h.k.sem0
    · intro i n hn; rw [horder]; exact h.k.var (hM hn).2
    · intro i n hn; exact h.k.tev (hM hn).2
    · intro i n hn; exact (hkid hn).1
    · intro i n hn; exact (hkid hn).2
    · intro i n hn; rw [hidx, hlev (hkid hn).1]; exact h.k.tlev (hM hn).2
    · intro i n hn; rw [hidx, hlev (hkid hn).2]; exact h.k.elev (hM hn).2
    · intro i n hn; exact h.k.ne (hM hn).2
    · intro i n hn; rw [hsem, htab, htab]; exact h.k.is (hM hn).2
    · intro i j n hn hn'; exact h.k.inj (hM hn).2 (hM hn').2
  refine ⟨⟨k', hs.full, ?_, h.c0, h.c1, ?_, ?_, h.n6, ?_⟩, htab, ?_⟩
  · intro p hp
    obtain ⟨r, e, _⟩ := h.ents p hp
    refine ⟨r, e, ?_⟩
    obtain ⟨x, h1, h2⟩ := hlx r (by rw [e] at hp; exact hp)
    have := hm.self x h1
    rw [h2] at this
    exact hok this
  · intro v; rw [hs.order]; exact h.order v
  · rw [hs.order]; exact h.olen
  · rw [hs.len]; exact h.nlen
  · rintro i ⟨n, hn⟩
    obtain ⟨c, hn'⟩ := hM hn
    refine ⟨⟨n, hn⟩, fun T hT hR => ?_⟩
    have := hm.least (fun j => isM A j ∧ T j) ?_ ?_ i c
    · exact this.2
    · rintro j ⟨hj1, hj2⟩ m hmn
      have hmn' : S'.g.node j = some m := by rw [hs.kept j hj1]; exact hmn
      obtain ⟨m2, g1, g2, g3⟩ := hm.kids j hj1
      rw [hmn] at g1
      cases g1
      obtain ⟨t1, t2⟩ := hT j hj2 m hmn'
      constructor
      · rcases g2 with g2 | g2
        · exact .inl g2
        · exact t1.imp id (fun t => ⟨g2, t⟩)
      · rcases g3 with g3 | g3
        · exact .inl g3
        · exact t2.imp id (fun t => ⟨g3, t⟩)
    · intro x hx'
      rcases hm.self x hx' with e | e
      · exact .inl e
      · exact (hR x.1 (hxl x hx')).imp id (fun t => ⟨e, t⟩)

set_option maxRecDepth 100000 in
theorem graphSweep_pre {Og : Nat → Prop} {w : World} {names : List ByteArray} {S : GrS} {gb lb : Nat} {L : List (Value × Value)} (hm : CopPre names S L) (hG : GrIs Og w gb S) (hlive : MapIs Tryz.prog 80 w lb L) (hlen : L.length ≤ 2000) (nlb : ¬ Og lb) {bm : Nat} (hbm : w.cell? ⟨bm, 0, none⟩ = some (.map (some lb))) (hbl : bm < w.heap.size) (hbo : ¬ Og bm) :
    Calls Tryz.prog 88 #[.pointer (some ⟨gb, 0, none⟩), .func (.func 143) #[] #[.pointer (some ⟨bm, 0, none⟩)]] w (SweepPost Og w gb S (LiveXs L)) := by
  refine graphSweep_is hG hm.k ?_
  intro W ho hsz hG
  have hlb := hlive.lt
  have hlW : W.heap[lb]? = w.heap[lb]? := ho.block lb hlb nlb
  have hbW : W.heap[bm]? = w.heap[bm]? := ho.block bm hbl hbo
  have hcW : W.cell? ⟨bm, 0, none⟩ = some (.map (some lb)) := by
    rw [← hbm]
    unfold World.cell?
    simp only [hbW]
  have hmW := hlive.same hlW
  have hsm : ∀ {r}, S.g.ok r → r < refMax := by
    intro r hr
    have := hm.nlen
    unfold refMax
    rcases hr with e' | ⟨n, hn⟩
    · omega
    · have := GrS.node_lt hn
      omega
  obtain ⟨D, hD1, hD2⟩ := ownsMap_live hmW (fun p hp => by obtain ⟨r, e, _⟩ := hm.ents p hp; rw [e]) (fun p hp => by
    obtain ⟨r, e, hr⟩ := hm.ents p hp
    exact ⟨r, by rw [e], hsm hr⟩) (by unfold maxLen; omega)
  have hseq := keys_stops (G := S.g) 5 (by omega) bm lb L.length D W (by omega) hcW hD1 (fun z hz => by
    obtain ⟨r, e, hr⟩ := (hD2 z).1 hz
    have := hm.liveOk hr
    exact ⟨r, e, this, hsm this⟩)
  have := graphReach_is (S := { S with free := [] }) hG hm.k (gf := 143) (by intro args w; rfl) hseq (fun h1 h2 => h1.trans h2) (fun W W' h _ => h.walks) (fun W l o o' _ hl _ hw => KeepsWalks.putObj o' hl hw)
  refine this.mono ?_
  rintro e w' ⟨xs, A, rb, hxs, r⟩
  refine ⟨xs, A, rb, ?_, r⟩
  intro z
  rw [hxs z, hD2 z]
  rfl

/-- v goes to place t of the order. -/
def moveO (o : List Nat) (v t : Nat) : List Nat := (o.erase v).take t ++ v :: (o.erase v).drop t

theorem moveO_of {o : List Nat} {v t : Nat} (hd : o.Nodup) (hv : v ∈ o) (ht : o.idxOf v = t) : o = moveO o v t := by
  obtain ⟨A, B, rfl, hA⟩ : ∃ A B, o = A ++ v :: B ∧ v ∉ A := by
    clear hd ht
    induction o with
    | nil => simp at hv
    | cons a o ih =>
      by_cases e : a = v
      · subst e; exact ⟨[], o, rfl, by simp⟩
      · obtain ⟨A, B, h1, h2⟩ := ih (by rcases List.mem_cons.1 hv with h | h; exact absurd h.symm e; exact h)
        exact ⟨a :: A, B, by rw [h1]; rfl, by simp only [List.mem_cons, not_or]; exact ⟨fun h => e h.symm, h2⟩⟩
  have e1 : (A ++ v :: B).idxOf v = A.length := by
    rw [List.idxOf_append, if_neg hA, List.idxOf_cons_self, Nat.zero_add]
  rw [e1] at ht
  subst ht
  unfold moveO
  rw [List.erase_append_right _ hA, List.erase_cons_head]
  simp

theorem GrS.MoveSt.moved {S S' : GrS} {v t j : Nat} (h : S.MoveSt S' v t j) (hv : v ∈ S.order) : S'.order = moveO S.order v t := by
  have h1 := moveO_of (v := v) (t := t) h.ok.nodup ((h.mem v).2 hv) h.ix
  have h1' : S'.order = moveO S'.order v t := h1
  rw [h1']
  unfold moveO
  rw [h.er]

theorem moved_pre {names : List ByteArray} {S S' : GrS} {L : List (Value × Value)} {v t j : Nat} (h : CopPre names S L) (hm : S.MoveSt S' v t j) : CopPre names S' L := by
  refine ⟨hm.ok, hm.full, ?_, h.c0, h.c1, ?_, ?_, h.n6, hm.nl⟩
  · intro p hp
    obtain ⟨r, e, hr⟩ := h.ents p hp
    exact ⟨r, e, (hm.keeps r hr).1⟩
  · intro u; exact (hm.mem u).trans (h.order u)
  · exact hm.len.trans h.olen

end Go.Proofs.YtebfmcafmojlaaaGreatDoor

/-
  copse: moved, Move.
-/
namespace Go.Proofs.YtebfmcafmojlaaaGreatDoor
open Go.RowKit Go.Maps
set_option linter.unusedSimpArgs false
set_option linter.unusedVariables false

theorem only_over {B : Nat} {O : Nat → Prop} {w w' : World} (h : Only O w w') (hO : ∀ b, O b → B ≤ b) (hB : B ≤ w.heap.size) : Below B w w' :=
  ⟨h.os, h.tape, h.output, h.size, fun k hk => h.block k (by omega) (fun e => by have := hO k e; omega)⟩

/-- A graph of new blocks, moved and swept. -/
def MovedPost (w : World) (names : List ByteArray) (S : GrS) (L : List (Value × Value)) (v t : Nat) (e : Ending) (w' : World) : Prop :=
  ∃ gb2 S2, e = .returned (.pointer (some ⟨gb2, 0, none⟩)) ∧ w.heap.size ≤ gb2 ∧ Below w.heap.size w w' ∧ GrIs (fun b => w.heap.size ≤ b ∧ b < w'.heap.size) w' gb2 S2 ∧ CopPre names S2 L ∧ (∀ i, S2.g.has i → S2.g.Reach (liveH L) i) ∧ S2.order = moveO S.order v t ∧ ∀ r, liveH L r → S2.g.tab r = S.g.tab r

theorem GrIs.wide {O O' : Nat → Prop} {w : World} {gb : Nat} {S : GrS} (h : GrIs O w gb S) (hO : ∀ b, O b → O' b) (hl : ∀ b, O' b → b < w.heap.size) : GrIs O' w gb S := by
  obtain ⟨ov, nv, fv, mb, rb, M, R, hA⟩ := h
  exact ⟨ov, nv, fv, mb, rb, M, R, { hA with lt := hl, self := hO _ hA.self, om := hO _ hA.om, orr := hO _ hA.orr, order := hA.order.mono hO, nin := fun k hk => hO k (hA.nin k hk), free := hA.free.mono hO }⟩

theorem moved_end {w w1 w2 w3 w4 : World} {names : List ByteArray} {S S2 : GrS} {L : List (Value × Value)} {v t j gb : Nat} {ov' : Value} {O2 : Nat → Prop} (hp : CopPre names S L) (hv : v ∈ S.order) (hgb : w.heap.size ≤ gb) (hb1 : Below w.heap.size w w1) (h2 : Only (fun b => w.heap.size ≤ b ∧ b < w1.heap.size) w1 w2) (hg2 : Grows w1 (fun b => w.heap.size ≤ b ∧ b < w1.heap.size) O2) (hm : ({ S with ov := ov' } : GrS).MoveSt S2 v t j) (hb3 : Below w2.heap.size w2 w3)
    (h4 : SweepPost O2 w3 gb S2 (LiveXs L) (.returned (.tuple #[])) w4) : MovedPost w names S L v t (.returned (.pointer (some ⟨gb, 0, none⟩))) w4 := by
  obtain ⟨_, xs, A, S4, hx, hma, hsw, ho4, O4, hG4, hg4⟩ := h4
  have hp1 : CopPre names ({ S with ov := ov' } : GrS) L := ⟨hp.k, hp.full, hp.ents, hp.c0, hp.c1, hp.order, hp.olen, hp.n6, hp.nlen⟩
  have hp2 := moved_pre hp1 hm
  obtain ⟨hp4, ht4, hr4⟩ := swept_pre hp2 hsw hma hx
  have hs1 := hb1.size
  have hs2 := h2.size
  have hs3 := hb3.size
  have hO2 : ∀ b, O2 b → w.heap.size ≤ b := by
    intro b hb
    rcases hg2 b hb with h | h
    · exact h.1
    · omega
  have hO4 : ∀ b, O4 b → w.heap.size ≤ b := by
    intro b hb
    rcases hg4 b hb with h | h
    · exact hO2 b h
    · omega
  have k2 := only_over h2 (B := w.heap.size) (fun b hb => hb.1) hs1
  have k4 := only_over ho4 (B := w.heap.size) hO2 (by omega)
  refine ⟨gb, S4, rfl, hgb, hb1.trans (k2.trans ((hb3.mono (by omega)).trans k4)), hG4.wide (fun b hb => ⟨hO4 b hb, hG4.lt b hb⟩) (fun b hb => hb.2), hp4, hr4, ?_, ?_⟩
  · rw [hsw.order]
    exact hm.moved hv
  · intro r hr
    rw [ht4]
    exact (hm.keeps r (hp.liveOk hr)).2

set_option maxHeartbeats 1000000 in
set_option maxRecDepth 10000 in
theorem copseMoved_is {O : Nat → Prop} {w : World} {x cap : Nat} {names : List ByteArray} {S : GrS} {nv : Value} {gb lb : Nat} {L : List (Value × Value)} {Og : Nat → Prop} {v t : Nat} (hok : CopOk cap names S L) (hA : CopAt O w x cap names S nv gb lb L Og) (hv : v ∈ S.order) (ht : t < S.order.length) :
    Calls Tryz.prog 47 #[.pointer (some ⟨x, 0, none⟩), .int .i64 (v : Int), .int .i64 (t : Int)] w (MovedPost w names S L v t) := by
  have hp := hok.mid.pre
  have c2 := hA.c.2.2.1
  have c3 := hA.c.2.2.2
  have hxl := hA.lt x hA.self
  have hlbl := hA.lt lb hA.ol
  have hcl := graphClone_is hA.graph
  have hkeys := fun W => mapsKeys_is lb W
  have hmv : ∀ gb' ov' w1, Below w.heap.size w w1 → GrIs (fun b => w.heap.size ≤ b ∧ b < w1.heap.size) w1 gb' { S with ov := ov' } → Calls Tryz.prog 92 #[.pointer (some ⟨gb', 0, none⟩), .int .i64 (v : Int), .int .i64 (t : Int)] w1 (fun e w2 => e = .returned (.tuple #[]) ∧ w2.cell? ⟨x, 3, none⟩ = some (.map (some lb)) ∧ MovePost (fun b => w.heap.size ≤ b ∧ b < w1.heap.size) w1 gb' { S with ov := ov' } v t (.returned (.tuple #[])) w2) := by
    intro gb' ov' w1 hb1 hG1
    refine (graphMove_is hG1 (v := v) (t := t) hp.k hp.full hv ht (by have := hok.size; have := hok.c300; show S.nums.length ≤ 300; omega) hp.nlen).mono ?_
    rintro e w2 hpost
    obtain ⟨he, S2, hs, hj⟩ := hpost
    subst he
    refine ⟨rfl, ?_, rfl, S2, hs, hj⟩
    have h1 := hb1.size
    rw [hs.1.cell (p := ⟨x, 3, none⟩) (fun e => by have : w.heap.size ≤ x := e.1; omega) (by show x < _; omega)]
    exact (hb1.cell (p := ⟨x, 3, none⟩) hxl).trans c3
  have hsweep : ∀ gb' ov' w1 w2, w.heap.size ≤ gb' → Below w.heap.size w w1 → MovePost (fun b => w.heap.size ≤ b ∧ b < w1.heap.size) w1 gb' { S with ov := ov' } v t (.returned (.tuple #[])) w2 → Calls Tryz.prog 88 #[.pointer (some ⟨gb', 0, none⟩), .func (.func 143) #[] #[.pointer (some ⟨w2.heap.size, 0, none⟩)]] (w2.alloc (.cells #[.map (some lb)] 75)) (fun e w4 => e = .returned (.tuple #[]) ∧ MovedPost w names S L v t (.returned (.pointer (some ⟨gb', 0, none⟩))) w4) := by
    intro gb' ov' w1 w2 hgb hb1 hpost
    obtain ⟨_, S2, ⟨ho, O2, hG2, hg2⟩, j, hj, hst⟩ := hpost
    have hp1 : CopPre names ({ S with ov := ov' } : GrS) L := ⟨hp.k, hp.full, hp.ents, hp.c0, hp.c1, hp.order, hp.olen, hp.n6, hp.nlen⟩
    have hp2 := moved_pre hp1 hst
    have hb3 : Below w2.heap.size w2 (w2.alloc (.cells #[.map (some lb)] 75)) := (Below.refl _ w2).alloc (Nat.le_refl _) _
    have hc3 : (w2.alloc (.cells #[.map (some lb)] 75)).heap[w2.heap.size]? = some (.cells #[.map (some lb)] 75 (0, 0)) := heap_alloc_new w2 _
    have hs1 := hb1.size
    have hs2 := ho.size
    have hO2 : ∀ b, O2 b → w.heap.size ≤ b := by
      intro b hb
      rcases hg2 b hb with h | h
      · exact h.1
      · omega
    have k2 := only_over ho (B := w.heap.size) (fun b hb => hb.1) hs1
    have hl3 := hA.live.carry ((hb1.trans k2).trans (hb3.mono (by omega)))
    refine (graphSweep_pre hp2 (hG2.below hb3) hl3 (live_len hok.mid hA.live) (fun e => by have := hO2 _ e; omega) (bm := w2.heap.size) (by rw [cell_of_heap hc3]; rfl) (by simp) (fun e => by have := hG2.lt _ e; omega)).mono ?_
    intro e w4 h4
    have he := h4.1
    subst he
    exact ⟨rfl, moved_end hp hv hgb hb1 ho hg2 hst hb3 h4⟩
  have HM : Hid _ := hmv
  have HS : Hid _ := hsweep
  clear hmv hsweep hp hok hA hv ht
  go_enter Tryz.func47, Tryz.ntmps47
  go_wp2_with (first
    | (go_at_call 91; refine hcl.mono ?_; clear hcl; rintro e w1 ⟨gb', ov', rfl, hgb, hb1, hG1⟩; have hm1 := HM.out gb' ov' w1 hb1 hG1; clear HM hG1)
    | (go_at_call 92; refine hm1.mono ?_; clear hm1; rintro e w2 ⟨rfl, q3, hpost⟩; have hs1 := HS.out gb' ov' w1 w2 hgb hb1 hpost; clear HS hpost)
    | (go_at_call 89; refine (hkeys _).mono ?_; clear hkeys; rintro e w3 ⟨rfl, rfl⟩)
    | (go_at_call 88; refine hs1.mono ?_; clear hs1; rintro e w4 ⟨rfl, hfin⟩))
  go_ret
  exact hfin

end Go.Proofs.YtebfmcafmojlaaaGreatDoor

