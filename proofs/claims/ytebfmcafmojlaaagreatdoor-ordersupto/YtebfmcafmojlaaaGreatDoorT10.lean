/-
  copselaw.twin: answer, at.
-/
import Derived.Deep.RegionHeld
import Derived.Test.YtebfmcafmojlaaaGreatDoorT09
import Derived.Test.YtebfmcafmojlaaaGreatDoorT06
namespace Go.Proofs.YtebfmcafmojlaaaGreatDoor
open Go.RowKit
set_option linter.unusedSimpArgs false
set_option linter.unusedVariables false

structure OpS where
  kind : Int
  on : Int
  a : Int
  v : Bool
  f : List Int
  s : ByteArray

def opv (o : OpS) (fv : Value) : Value := .agg #[.int .i64 o.kind, .int .i64 o.on, .int .i64 o.a, .bool o.v, fv, .string o.s]

theorem lawAnswer_no (tb : Nat) (fz : Int) (e0 : Int) (h0 : e0 ≠ 0) (w : World) :
    Calls Tryz.prog 63 #[.pointer (some ⟨tb, 0, none⟩), .int .i64 0, .int .i64 e0, .int .u64 fz, .int .i64 e0] w fun e w' => e = .returned (.bool true) ∧ w' = w := by
  have h1 : (e0 != 0) = true := by simpa using h0
  have h2 : (e0 != e0) = false := by simp
  clear h0
  go_enter Tryz.func63, Tryz.ntmps63
  go_wp2_with (go_at_call 103; refine (lawNum _ _).mono ?_; rintro e w1 ⟨rfl, hq⟩; replace hq := hq.symm; subst hq)
  go_ret
  exact ⟨rfl, rfl⟩

theorem lawAnswer_yes {O : Nat → Prop} {w : World} {tb x r : Nat} {l : List (Nat × Tab)} {av : Value} (h : TwinAt O w tb x r l av) (h0 : 0 < l.length) (hl : l.length ≤ 4000000) (hd : Nat) (hhd : hd < 4611686018427387904) (f : Tab)
    (halike : ∀ k, k < l.length → ((l.getD k (0, 0)).1 = hd ↔ (l.getD k (0, 0)).2 = f)) (hsmall : ∀ k, k < l.length → (l.getD k (0, 0)).1 < 4611686018427387904) :
    Calls Tryz.prog 63 #[.pointer (some ⟨tb, 0, none⟩), .int .i64 hd, .int .i64 0, .int .u64 (f.toNat : Int), .int .i64 0] w fun e w' => e = .returned (.bool true) ∧ TwinStep O w tb x r w' (toldL l hd f) := by
  have ht := lawTold h h0 hl hd hhd f halike hsmall
  clear halike hsmall
  go_enter Tryz.func63, Tryz.ntmps63
  go_wp2_with (first | (go_at_call 103; refine (lawNum _ _).mono ?_; rintro e w1 ⟨rfl, hq⟩; replace hq := hq.symm; subst hq) | (go_at_call 109; refine ht.mono ?_; rintro e w1 ⟨rfl, hs⟩))
  go_ret
  exact ⟨rfl, hs⟩

/-- A list of the step's: its numbers, or none (and then whatever address). -/
def FReads (B : Nat) (w : World) (v : Value) (xs : List Value) : Prop :=
  (xs = [] ∧ ∃ ao cap, v = .slice ao 0 cap) ∨
  ∃ b off cap, v = .slice (some ⟨b, off, none⟩) xs.length cap ∧ b < B ∧ ∀ i, i < xs.length → w.cell? ⟨b, off + i, none⟩ = some (xs.getD i undef)

theorem FReads.below {B B' : Nat} {w w' : World} {v : Value} {xs : List Value} (h : FReads B w v xs) (hb : Below B' w w') (hB : B ≤ B') : FReads B w' v xs := by
  rcases h with h | ⟨b, off, cap, rfl, hlt, hc⟩
  · exact .inl h
  · exact .inr ⟨b, off, cap, rfl, hlt, fun i hi => (hb.cell (p := ⟨b, off + i, none⟩) (by show b < B'; omega)).trans (hc i hi)⟩

theorem FReads.mono {B B' : Nat} {w : World} {v : Value} {xs : List Value} (h : FReads B w v xs) (hB : B ≤ B') : FReads B' w v xs := by
  rcases h with h | ⟨b, off, cap, rfl, hlt, hc⟩
  · exact .inl h
  · exact .inr ⟨b, off, cap, rfl, by omega, hc⟩

/-- Which handle the raw numbers F speak of at i. -/
def atR (l : List (Nat × Tab)) (F : List Int) (i : Nat) : Option (Nat × Tab) := if F.getD i 0 = -1 then none else some (l.getD (pickI (F.getD i 0) l.length).toNat (0, 0))
def atV (l : List (Nat × Tab)) (F : List Int) (i : Nat) : Value :=
  match atR l F i with
  | none => .tuple #[.int .i64 (-1 - (i : Int)), .int .u64 0, .bool false]
  | some p => .tuple #[.int .i64 p.1, .int .u64 (p.2.toNat : Int), .bool true]

set_option maxHeartbeats 2000000 in
set_option maxRecDepth 20000 in
theorem lawAt_rest {O : Nat → Prop} {w : World} {tb x r : Nat} {l : List (Nat × Tab)} {av : Value} (h : TwinAt O w tb x r l av) (h0 : 0 < l.length) (hl : l.length ≤ 4000000) (o : OpS) (fv : Value) {B : Nat} (hB : B ≤ w.heap.size) (hF : FReads B w fv (o.f.map zv)) (hFl : o.f.length ≤ 2000000) (hz : ∀ z ∈ o.f, i64ok z) (i : Nat) (hi : i ≤ 2000000) :
    Calls Tryz.prog 110 #[.pointer (some ⟨tb, 0, none⟩), opv o fv, .int .i64 i] w fun e w' => e = .returned (atV l o.f i) ∧ Below w.heap.size w w' := by
  obtain ⟨g, cap, rfl, hOg, hcx⟩ := h.read h0
  have hav : w.cell? ⟨tb, 2, none⟩ = some (.slice (some ⟨g, 0, none⟩) l.length cap) := by rw [cell_of_heap h.cells]; rfl
  have hgl : g < w.heap.size := h.lt g hOg
  have htl : tb < w.heap.size := h.lt tb h.self
  clear h
  unfold opv
  by_cases hil : i < o.f.length
  · rcases hF with ⟨hn, fao, fcap, rfl⟩ | ⟨fb, fo, fcap, rfl, hfB, hfc⟩
    · have : o.f = [] := by simpa using hn
      rw [this] at hil; simp at hil
    · have hfl : fb < w.heap.size := by omega
      have hci := hfc i (by simpa using hil)
      have hzi : i64ok (o.f.getD i 0) := by
        rw [List.getD_eq_getElem?_getD, List.getElem?_eq_getElem hil]
        exact hz _ (List.getElem_mem hil)
      have hzv : (o.f.map zv).getD i undef = .int .i64 (o.f.getD i 0) := by simp [zv, hil]
      rw [hzv] at hci
      rw [List.length_map]
      obtain ⟨c, hc⟩ : ∃ c, c = o.f.getD i 0 := ⟨_, rfl⟩
      rw [← hc] at hci hzi
      have hatv : atV l o.f i = match (if c = -1 then none else some (l.getD (pickI c l.length).toNat (0, 0))) with | none => .tuple #[.int .i64 (-1 - (i : Int)), .int .u64 0, .bool false] | some p => .tuple #[.int .i64 p.1, .int .u64 (p.2.toNat : Int), .bool true] := by
        unfold atV atR; rw [← hc]
      rw [hatv]
      obtain ⟨n, hn⟩ : ∃ n, n = o.f.length := ⟨_, rfl⟩
      rw [← hn] at hil hFl ⊢
      clear hc hzv hfc hz hatv hn
      obtain ⟨hz1, hz2⟩ := hzi
      by_cases hbad : c = -1
      · rw [if_pos hbad]
        subst hbad
        go_enter Tryz.func110, Tryz.ntmps110
        go_wp2
        go_ret3
        exact ⟨rfl, (Below.refl _ _).alloc (Nat.le_refl _) _⟩
      · rw [if_neg hbad]
        have hp := pickI_lt c l.length (by omega)
        have hpc := hcx (pickI c l.length).toNat (by omega)
        obtain ⟨q, hq⟩ : ∃ q : Nat, pickI c l.length = q := ⟨(pickI c l.length).toNat, by omega⟩
        have hpk := fun w' => lawPick c l.length w' hz1 hz2 (by omega) (by omega)
        rw [hq] at hpc hp hpk ⊢
        simp only [Int.toNat_natCast] at hpc ⊢
        obtain ⟨hx, fx, hpp⟩ : ∃ hx fx, l.getD q (0, 0) = (hx, fx) := ⟨_, _, rfl⟩
        rw [hpp] at hpc ⊢
        obtain ⟨hp1, hp2⟩ := hpc
        simp only [intv, tabv] at hp1 hp2
        have hcb : (c == -1) = false := by simpa using hbad
        clear hcx hq hpp hbad
        go_enter Tryz.func110, Tryz.ntmps110
        go_wp2
        go_region_held (fun w' => w'.cell? ⟨tb, 2, none⟩ = some (.slice (some ⟨g, 0, none⟩) l.length cap) ∧ w'.cell? ⟨g, q * 2, none⟩ = some (.int .i64 hx) ∧ w'.cell? ⟨g, q * 2 + 1, none⟩ = some (.int .u64 (fx.toNat : Int))) (go_keep) (first | (go_at_call 61; refine (hpk _).mono ?_; rintro e w1 ⟨rfl, hq⟩; replace hq := hq.symm; subst hq))
        all_goals
          go_wp2
          go_quiet (fail)
          go_wp2
          go_ret3
          exact ⟨rfl, below_drewN ((((Below.refl _ _).alloc (Nat.le_refl _) _).alloc (by simp) _).drew) _⟩
  · obtain ⟨fao, fcap, rfl⟩ : ∃ ao cap, fv = .slice ao o.f.length cap := by
      rcases hF with ⟨hn, fao, fcap, rfl⟩ | ⟨fb, fo, fcap, rfl, hfB, hfc⟩
      · have : o.f = [] := by simpa using hn
        rw [this]; exact ⟨_, _, rfl⟩
      · rw [List.length_map]; exact ⟨_, _, rfl⟩
    have hc : o.f.getD i 0 = 0 := by
      rw [List.getD_eq_getElem?_getD, List.getElem?_eq_none (by omega)]; rfl
    have hatv : atV l o.f i = match (some (l.getD (pickI 0 l.length).toNat (0, 0))) with | none => .tuple #[.int .i64 (-1 - (i : Int)), .int .u64 0, .bool false] | some p => .tuple #[.int .i64 p.1, .int .u64 (p.2.toNat : Int), .bool true] := by
      unfold atV atR; rw [hc]; rfl
    rw [hatv]
    obtain ⟨n, hn⟩ : ∃ n, n = o.f.length := ⟨_, rfl⟩
    rw [← hn] at hil hFl ⊢
    clear hc hz hatv hn hF
    have hp := pickI_lt 0 l.length (by omega)
    have hpc := hcx (pickI 0 l.length).toNat (by omega)
    obtain ⟨q, hq⟩ : ∃ q : Nat, pickI 0 l.length = q := ⟨(pickI 0 l.length).toNat, by omega⟩
    have hpk := fun w' => lawPick 0 l.length w' (by omega) (by omega) (by omega) (by omega)
    rw [hq] at hpc hp hpk ⊢
    simp only [Int.toNat_natCast] at hpc ⊢
    obtain ⟨hx, fx, hpp⟩ : ∃ hx fx, l.getD q (0, 0) = (hx, fx) := ⟨_, _, rfl⟩
    rw [hpp] at hpc ⊢
    obtain ⟨hp1, hp2⟩ := hpc
    simp only [intv, tabv] at hp1 hp2
    clear hcx hq hpp
    go_enter Tryz.func110, Tryz.ntmps110
    go_wp2
    go_region_held (fun w' => w'.cell? ⟨tb, 2, none⟩ = some (.slice (some ⟨g, 0, none⟩) l.length cap) ∧ w'.cell? ⟨g, q * 2, none⟩ = some (.int .i64 hx) ∧ w'.cell? ⟨g, q * 2 + 1, none⟩ = some (.int .u64 (fx.toNat : Int))) (go_keep) (first | (go_at_call 61; refine (hpk _).mono ?_; rintro e w1 ⟨rfl, hq⟩; replace hq := hq.symm; subst hq))
    all_goals
      go_wp2
      go_quiet (fail)
      go_wp2
      go_ret3
      exact ⟨rfl, below_drewN ((((Below.refl _ _).alloc (Nat.le_refl _) _).alloc (by simp) _).drew) _⟩

end Go.Proofs.YtebfmcafmojlaaaGreatDoor

/-
  copselaw.twin: several.
-/
namespace Go.Proofs.YtebfmcafmojlaaaGreatDoor
open Go.RowKit
set_option linter.unusedSimpArgs false
set_option linter.unusedVariables false

def sevH (l : List (Nat × Tab)) (F : List Int) (i : Nat) : Int := match atR l F i with | none => -1 - (i : Int) | some p => p.1
def sevT (l : List (Nat × Tab)) (F : List Int) (i : Nat) : Tab := match atR l F i with | none => 0 | some p => p.2
def sevB (l : List (Nat × Tab)) (F : List Int) (i : Nat) : Bool := (atR l F i).isSome
def sevOk (l : List (Nat × Tab)) (F : List Int) (n : Nat) : Bool := (List.range n).all (sevB l F)
def sevHs (l : List (Nat × Tab)) (F : List Int) (n : Nat) : List Int := (List.range n).map (sevH l F)
def sevTs (l : List (Nat × Tab)) (F : List Int) (n : Nat) : List Tab := (List.range n).map (sevT l F)

theorem atV_eq (l : List (Nat × Tab)) (F : List Int) (i : Nat) : atV l F i = .tuple #[.int .i64 (sevH l F i), .int .u64 ((sevT l F i).toNat : Int), .bool (sevB l F i)] := by
  unfold atV sevH sevT sevB
  cases atR l F i <;> rfl

theorem sevOk_succ (l : List (Nat × Tab)) (F : List Int) (n : Nat) : sevOk l F (n + 1) = (sevOk l F n && sevB l F n) := by
  unfold sevOk
  rw [List.range_succ, List.all_append]
  simp
theorem sevHs_succ (l : List (Nat × Tab)) (F : List Int) (n : Nat) : sevHs l F (n + 1) = sevHs l F n ++ [sevH l F n] := by
  unfold sevHs
  rw [List.range_succ, List.map_append]
  rfl
theorem sevTs_succ (l : List (Nat × Tab)) (F : List Int) (n : Nat) : sevTs l F (n + 1) = sevTs l F n ++ [sevT l F n] := by
  unfold sevTs
  rw [List.range_succ, List.map_append]
  rfl
theorem one_cell_z (u : Int) : ∀ x ∈ [zv u], x.oneCell' = true := by intro x hx; simp at hx; subst hx; rfl

theorem cells6 {w : World} {b : Nat} {a0 a1 a2 a3 a4 a5 : Value} {t : TypeId} {fr : Nat × Nat} (h : w.heap[b]? = some (.cells #[a0, a1, a2, a3, a4, a5] t fr)) :
    w.cell? ⟨b, 0, none⟩ = some a0 ∧ w.cell? ⟨b, 1, none⟩ = some a1 ∧ w.cell? ⟨b, 2, none⟩ = some a2 ∧ w.cell? ⟨b, 3, none⟩ = some a3 ∧ w.cell? ⟨b, 4, none⟩ = some a4 ∧ w.cell? ⟨b, 5, none⟩ = some a5 := by
  refine ⟨?_, ?_, ?_, ?_, ?_, ?_⟩ <;> (rw [cell_of_heap h]; rfl)

theorem TwinAt.below {O : Nat → Prop} {w w' : World} {tb x r : Nat} {l : List (Nat × Tab)} {av : Value} (h : TwinAt O w tb x r l av) (hb : Below w.heap.size w w') : TwinAt O w' tb x r l av :=
  h.keep hb.size (fun k hk => hb.block k (h.lt k hk))

set_option maxHeartbeats 2000000 in
set_option maxRecDepth 20000 in
theorem lawSeveral {O : Nat → Prop} {w : World} {tb x r : Nat} {l : List (Nat × Tab)} {av : Value} (h : TwinAt O w tb x r l av) (h0 : 0 < l.length) (hl : l.length ≤ 4000000) (o : OpS) (fv : Value) (hF : FReads w.heap.size w fv (o.f.map zv)) (hFl : o.f.length ≤ 2000000) (hz : ∀ z ∈ o.f, i64ok z) :
    Calls Tryz.prog 119 #[.pointer (some ⟨tb, 0, none⟩), opv o fv] w fun e w' => ∃ hv tv, e = .returned (.tuple #[hv, tv, .bool (sevOk l o.f o.f.length)]) ∧ w'.ownsRow w.heap.size 3 1 hv o.f.length ((sevHs l o.f o.f.length).map zv) ∧ w'.ownsRow w.heap.size 111 1 tv o.f.length ((sevTs l o.f o.f.length).map tabv) ∧ Below w.heap.size w w' := by
  obtain ⟨i0, hi, hz0, hz1, hz2⟩ := info_parts Tryz.infoInt
  obtain ⟨j0, hj, gz0, gz1, gz2⟩ := info_parts Tryz.infoFunc
  obtain ⟨fao, fcap, rfl⟩ : ∃ ao cap, fv = .slice ao o.f.length cap := by
    rcases hF with ⟨hn, fao, fcap, rfl⟩ | ⟨fb, fo, fcap, rfl, hfB, hfc⟩
    · have : o.f = [] := by simpa using hn
      rw [this]; exact ⟨_, _, rfl⟩
    · rw [List.length_map]; exact ⟨_, _, rfl⟩
  obtain ⟨W0, hW0⟩ : ∃ W0, W0 = w.alloc (.cells #[.int .i64 o.kind, .int .i64 o.on, .int .i64 o.a, .bool o.v, .slice fao o.f.length fcap, .string o.s] 66) := ⟨_, rfl⟩
  have hb0 : Below w.heap.size w W0 := by rw [hW0]; exact (Below.refl _ _).alloc (Nat.le_refl _) _
  have hbox : W0.heap[w.heap.size]? = some (.cells #[.int .i64 o.kind, .int .i64 o.on, .int .i64 o.a, .bool o.v, .slice fao o.f.length fcap, .string o.s] 66 (0, 0)) := by rw [hW0]; exact heap_alloc_new w _
  have hsz : W0.heap.size = w.heap.size + 1 := by rw [hW0]; simp
  have hat : ∀ (wq : World) (i : Nat), Below W0.heap.size W0 wq → i ≤ 2000000 → Calls Tryz.prog 110 #[.pointer (some ⟨tb, 0, none⟩), .agg #[.int .i64 o.kind, .int .i64 o.on, .int .i64 o.a, .bool o.v, .slice fao o.f.length fcap, .string o.s], .int .i64 i] wq fun e w' => e = .returned (.tuple #[.int .i64 (sevH l o.f i), .int .u64 ((sevT l o.f i).toNat : Int), .bool (sevB l o.f i)]) ∧ Below wq.heap.size wq w' := by
    intro wq i hb hi
    have hbw : Below w.heap.size w wq := hb0.trans (hb.mono hb0.size)
    rw [← atV_eq]
    exact lawAt_rest (h.below hbw) h0 hl o _ (B := w.heap.size) hbw.size (hF.below hbw (Nat.le_refl _)) hFl hz i hi
  unfold opv
  clear h hF hz
  go_enter Tryz.func119, Tryz.ntmps119
  go_wp2
  rw [← hW0]
  go_loopw [7, 8, 9, 10] (fun hv tv ok i wr => ∃ k : Nat, k ≤ o.f.length ∧ i = .int .i64 k ∧ ok = .bool (sevOk l o.f k) ∧ wr.ownsRow W0.heap.size 3 1 hv k ((sevHs l o.f k).map zv) ∧ wr.ownsRow W0.heap.size 111 1 tv k ((sevTs l o.f k).map tabv) ∧ Below W0.heap.size W0 wr) (fun _ _ _ i _ => o.f.length - (intOf i).toNat)
  case atStart => exact ⟨0, Nat.zero_le _, rfl, rfl, World.ownsRow_nil _ _ _ _, World.ownsRow_nil _ _ _ _, Below.refl _ _⟩
  case round =>
    obtain ⟨k, hk, rfl, rfl, hoh, hot, hbl⟩ := hrel
    have hbx : wr.heap[w.heap.size]? = _ := (hbl.block w.heap.size (by omega)).trans hbox
    obtain ⟨c0, c1, c2, c3, c4, c5⟩ := cells6 hbx
    clear hbx
    by_cases hkl : k < o.f.length
    · have hk2 : k ≤ 2000000 := by omega
      have e1 := sevOk_succ l o.f k
      have e2 := sevHs_succ l o.f k
      have e3 := sevTs_succ l o.f k
      have E1 : Hid _ := e1
      have E2 : Hid _ := e2
      have E3 : Hid _ := e3
      clear e1 e2 e3
      have hatk := fun wq h => hat wq k h hk2
      obtain ⟨hx, hxe⟩ : ∃ hx, hx = sevH l o.f k := ⟨_, rfl⟩
      obtain ⟨fx, fxe⟩ : ∃ fx, fx = sevT l o.f k := ⟨_, rfl⟩
      obtain ⟨bx, bxe⟩ : ∃ bx, bx = sevB l o.f k := ⟨_, rfl⟩
      obtain ⟨ob, obe⟩ : ∃ ob, ob = sevOk l o.f k := ⟨_, rfl⟩
      rw [← hxe, ← fxe, ← bxe] at hatk
      rw [← hxe] at E2
      rw [← fxe] at E3
      rw [← bxe, ← obe] at E1
      rw [← obe]
      clear hxe fxe bxe obe hat hbox hW0
      cases ob
      · go_wp2_with (first
          | (go_at_call 110; refine (hatk _ hbl).mono ?_; rintro e w1 ⟨rfl, hb1⟩; replace hoh := owns_below hoh hb1 (Nat.le_refl _); replace hot := owns_below hot hb1 (Nat.le_refl _); replace hbl := hbl.trans (hb1.mono hbl.size); clear hb1)
          | (at_builtin; refine wpList_append_own _ rfl (.tmp 33) (.tmp 35) 25 rfl W0.heap.size 3 i0 (.int .i64 0) 1 8 Tryz.underlying25 hi hz0 hz1 hz2 rfl (by decide) _ _ _ rfl (hoh.alloc _) _ 1 1 [zv hx] rfl rfl ?_ ?_ ?_ ?_ ?_ ?_; exact cell_one_new _ _ _; exact one_cell_z _; exact le_maxLen (by omega); omega; exact Nat.le_trans hbl.size (by simp); intro v1 w1 hoh' hgrow _; replace hbl := hbl.trans (grown_below hgrow hoh hbl.size); replace hot := (hot.alloc _).kept hgrow (apart_of_types hot hoh (by decide)); clear hgrow hoh)
          | (at_builtin; refine wpList_append_own _ rfl (.tmp 37) (.tmp 39) 175 rfl W0.heap.size 111 j0 (.int .u64 0) 1 8 Tryz.underlying175 hj gz0 gz1 gz2 rfl (by decide) _ _ _ rfl (hot.alloc _) _ 1 1 [tabv fx] rfl rfl ?_ ?_ ?_ ?_ ?_ ?_; exact cell_one_new _ _ _; exact one_cell_tab _; exact le_maxLen (by omega); omega; exact Nat.le_trans hbl.size (by simp); intro v2 w2 hot' hgrow _; replace hbl := hbl.trans (grown_below hgrow hot hbl.size); replace hoh' := (hoh'.alloc _).kept hgrow (apart_of_types hoh' hot (by decide)); clear hgrow hot))
        go_roundw
        case rel => exact ⟨k + 1, by omega, by go_num, by rw [E1.out]; rfl, by rw [E2.out]; simpa using hoh', by rw [E3.out]; simpa using hot', hbl⟩
        case measure => simp [intOf]; omega
      · go_wp2_with (first
          | (go_at_call 110; refine (hatk _ hbl).mono ?_; rintro e w1 ⟨rfl, hb1⟩; replace hoh := owns_below hoh hb1 (Nat.le_refl _); replace hot := owns_below hot hb1 (Nat.le_refl _); replace hbl := hbl.trans (hb1.mono hbl.size); clear hb1)
          | (at_builtin; refine wpList_append_own _ rfl (.tmp 33) (.tmp 35) 25 rfl W0.heap.size 3 i0 (.int .i64 0) 1 8 Tryz.underlying25 hi hz0 hz1 hz2 rfl (by decide) _ _ _ rfl (hoh.alloc _) _ 1 1 [zv hx] rfl rfl ?_ ?_ ?_ ?_ ?_ ?_; exact cell_one_new _ _ _; exact one_cell_z _; exact le_maxLen (by omega); omega; exact Nat.le_trans hbl.size (by simp); intro v1 w1 hoh' hgrow _; replace hbl := hbl.trans (grown_below hgrow hoh hbl.size); replace hot := (hot.alloc _).kept hgrow (apart_of_types hot hoh (by decide)); clear hgrow hoh)
          | (at_builtin; refine wpList_append_own _ rfl (.tmp 37) (.tmp 39) 175 rfl W0.heap.size 111 j0 (.int .u64 0) 1 8 Tryz.underlying175 hj gz0 gz1 gz2 rfl (by decide) _ _ _ rfl (hot.alloc _) _ 1 1 [tabv fx] rfl rfl ?_ ?_ ?_ ?_ ?_ ?_; exact cell_one_new _ _ _; exact one_cell_tab _; exact le_maxLen (by omega); omega; exact Nat.le_trans hbl.size (by simp); intro v2 w2 hot' hgrow _; replace hbl := hbl.trans (grown_below hgrow hot hbl.size); replace hoh' := (hoh'.alloc _).kept hgrow (apart_of_types hoh' hot (by decide)); clear hgrow hot))
        go_roundw
        case rel => exact ⟨k + 1, by omega, by go_num, by rw [E1.out]; rfl, by rw [E2.out]; simpa using hoh', by rw [E3.out]; simpa using hot', hbl⟩
        case measure => simp [intOf]; omega
    · have hk' : k = o.f.length := by omega
      subst hk'
      clear hat hbox hW0
      go_wp2_with fail
      go_ret3
      exact ⟨_, _, rfl, ownsRow_base hoh (by omega), ownsRow_base hot (by omega), hb0.trans (hbl.mono hb0.size)⟩

end Go.Proofs.YtebfmcafmojlaaaGreatDoor

/-
  append: the old row is written, or nothing old is.
-/
namespace Go.Proofs.YtebfmcafmojlaaaGreatDoor
open Go.RowKit
set_option linter.unusedSimpArgs false
set_option linter.unusedVariables false

/-- The answer lies in the old row, or in a new block and nothing old has turned. -/
def Moved (w w' : World) (v v' : Value) : Prop := (∃ g, v.ownBlock = some g ∧ v'.ownBlock = some g) ∨ (Below w.heap.size w w' ∧ ∀ k, v'.ownBlock = some k → w.heap.size ≤ k)

theorem Moved.placed {w w' : World} {v v' : Value} (h : Moved w w' v v') : Placed w v v' := by
  intro k hk
  rcases h with ⟨g, h1, h2⟩ | ⟨_, h⟩
  · rw [hk] at h2; rw [h1, h2]; exact .inl rfl
  · exact .inr (h k hk)

theorem run_append_moved {P : Program} (w : World) (base : Nat) (t ty e : TypeId) (i : TypeInfo) (z : Value) (size bytes : Nat) (ht : P.underlying t = some (.slice e)) (hi : P.info? e = some i) (hz : i.zero = some z)
    (hsize : i.size = size) (hby : i.bytes = bytes) (hzs : z.cells.size = size) (hsz : 0 < size)
    (v : Value) (n : Nat) (xs : List Value) (hown : w.ownsRow base e size v n xs)
    (a : Addr) (m c : Nat) (news : List Value) (hl : news.length = m * size) (hnews : ∀ j u, news[j]? = some u → w.cell? (a.add j) = some u) (h1 : ∀ u ∈ news, u.oneCell' = true)
    (h63 : n + m ≤ maxLen) (hbytes : (n + m) * bytes ≤ 140737488355328) (hbase : base ≤ w.heap.size) :
    ∃ v' w', (Builtin.append_ #[t, t] ty #[v, .slice (some a) m c]).run P w = .ok v' w' ∧ w'.ownsRow base e size v' (n + m) (xs ++ news) ∧ w.grownBy w' v.ownBlock ∧ Moved w w' v v' := by
  obtain ⟨v', w', hr, ho, hg, hz'⟩ := run_append_own (P := P) w base t ty e i z size bytes ht hi hz hsize hby hzs hsz v n xs hown a m c news hl hnews h1 h63 hbytes hbase
  refine ⟨v', w', hr, ho, hg, ?_⟩
  have hown2 := hown.2
  rcases hown2 with ⟨rfl, rfl⟩ | ⟨g, cap, cur, rfl, hb, hgg, hnc, hcm, hcs, htake⟩
  · have hx : xs = [] := List.eq_nil_of_length_eq_zero (by simpa using hown.1)
    subst hx
    obtain ⟨v2, w2, hr2, ho2, hg2, _⟩ := run_append_own (P := P) w w.heap.size t ty e i z size bytes ht hi hz hsize hby hzs hsz (.slice none 0 0) 0 [] (World.ownsRow_nil _ _ _ _) a m c news hl hnews h1 h63 hbytes (Nat.le_refl _)
    rw [hr] at hr2
    simp only [Result.ok.injEq] at hr2
    obtain ⟨rfl, rfl⟩ := hr2
    exact .inr ⟨grown_nil hg2, fun k hk => (ho2.lt k hk).1⟩
  · subst hsize
    subst hby
    by_cases hroom : n + m ≤ cap
    · have hfit : n * i.size + news.length ≤ cur.size := by rw [hl, hcs, ← Nat.add_mul]; exact Nat.mul_le_mul_right _ hroom
      have hr2 := run_append_room (P := P) w t ty e i ht hi g n cap cur hgg a m c news hl hnews h1 hroom hfit
      rw [hr] at hr2
      simp only [Result.ok.injEq] at hr2
      obtain ⟨rfl, rfl⟩ := hr2
      exact .inl ⟨g, rfl, rfl⟩
    · have hr2 := run_append_grow (P := P) w t ty e i z ht hi hz ⟨g, 0, none⟩ n cap xs hown.1 (hown.cells (g := g) rfl) a m c news hl hnews (by omega) (by simp only [maxLen] at h63; omega) (growslice_fits (by omega) hbytes)
      rw [hr] at hr2
      simp only [Result.ok.injEq] at hr2
      obtain ⟨rfl, rfl⟩ := hr2
      refine .inr ⟨(Below.refl _ _).drew.alloc (Nat.le_refl _) _, ?_⟩
      intro k hk
      simp [Value.ownBlock] at hk
      omega

theorem wpList_append_moved {P : Program} {w : World} {ops : Array Oper} {rest : List Oper} {o : Oper} {a : Act} {Q : Exit → Act → World → Prop} (hgd : o.guard = none) (s x : Operand) (t : TypeId)
    (ho : o.op = .call { callee := .builtin .append, args := #[s, x], argTypes := #[t, t] })
    (base : Nat) (e : TypeId) (i : TypeInfo) (z : Value) (size bytes : Nat) (ht : P.underlying t = some (.slice e)) (hi : P.info? e = some i) (hz : i.zero = some z)
    (hsize : i.size = size) (hby : i.bytes = bytes) (hzs : z.cells.size = size) (hsz : 0 < size)
    (v : Value) (n : Nat) (xs : List Value) (hs : a.eval s = v) (hown : w.ownsRow base e size v n xs)
    (ad : Addr) (m c : Nat) (news : List Value) (hx : a.eval x = .slice (some ad) m c) (hl : news.length = m * size) (hnews : ∀ j u, news[j]? = some u → w.cell? (ad.add j) = some u) (h1 : ∀ u ∈ news, u.oneCell' = true)
    (h63 : n + m ≤ maxLen) (hbytes : (n + m) * bytes ≤ 140737488355328) (hbase : base ≤ w.heap.size)
    (h : ∀ v' w', w'.ownsRow base e size v' (n + m) (xs ++ news) → w.grownBy w' v.ownBlock → Moved w w' v v' → wpList P ops Q rest (a.put o.dst v') w') : wpList P ops Q (o :: rest) a w := by
  refine wpList_plain hgd fun K hK => ?_
  obtain ⟨v', w', hr, h2, h3, h4⟩ := run_append_moved (P := P) w base t o.type e i z size bytes ht hi hz hsize hby hzs hsz v n xs hown ad m c news hl hnews h1 h63 hbytes hbase
  unfold Oper.wp execOp
  simp only [ho, resolve, invoke, builtin, Sem.run_bind, Sem.run_pure, Result.andThen_ok, List.map_toArray, List.map_cons, List.map_nil, hs, hx, hr]
  exact hK _ _ (h v' w' h2 h3 h4)

/-- A row of another element type lies in another block. -/
theorem row_ne_type {w : World} {b : Nat} {c : Array Value} {t : TypeId} {fr : Nat × Nat} (h : w.heap[b]? = some (.cells c t fr)) {base : Nat} {e : TypeId} {size : Nat} {v : Value} {n : Nat} {xs : List Value} (ho : w.ownsRow base e size v n xs) (hne : e ≠ t) : v.ownBlock ≠ some b := by
  intro hv
  rcases ho.2 with ⟨rfl, _⟩ | ⟨g, cap, cur, rfl, _, hg, _⟩
  · simp [Value.ownBlock] at hv
  · simp [Value.ownBlock] at hv
    subst hv
    rw [h] at hg
    simp at hg
    exact hne hg.2.1.symm

end Go.Proofs.YtebfmcafmojlaaaGreatDoor

/-
  copselaw.World in memory; the lists that their owner keeps.
-/
namespace Go.Proofs.YtebfmcafmojlaaaGreatDoor
open Go.RowKit
set_option linter.unusedSimpArgs false
set_option linter.unusedVariables false

structure LawS where
  tbs : List Nat
  texts : List Value
  marks : List ByteArray
  ints : List Value
  nums : List Int
  n : Nat

def tptr (b : Nat) : Value := .pointer (some ⟨b, 0, none⟩)

/-- copselaw's World L at block wb, its own rows in O. -/
structure LawAt (O : Nat → Prop) (w : World) (wb : Nat) (L : LawS) (av tv mv iv nv : Value) : Prop where
  lt : ∀ b, O b → b < w.heap.size
  self : O wb
  cells : w.heap[wb]? = some (.cells #[av, tv, mv, iv, nv, .int .i64 (L.n : Int)] 63 (0, 0))
  tbs : Row O w 109 av (L.tbs.map tptr)
  texts : Row O w 39 tv L.texts
  marks : Row O w 9 mv (L.marks.map Value.string)
  ints : Row O w 25 iv L.ints
  nums : Row O w 3 nv (L.nums.map zv)

theorem LawAt.keep {O : Nat → Prop} {w w' : World} {wb : Nat} {L : LawS} {av tv mv iv nv : Value} (h : LawAt O w wb L av tv mv iv nv) (hs : w.heap.size ≤ w'.heap.size) (hb : ∀ k, O k → w'.heap[k]? = w.heap[k]?) : LawAt O w' wb L av tv mv iv nv :=
  ⟨fun b hb => Nat.lt_of_lt_of_le (h.lt b hb) hs, h.self, (hb wb h.self).trans h.cells, h.tbs.same (fun k hk => hb k (h.tbs.2 k hk)), h.texts.same (fun k hk => hb k (h.texts.2 k hk)), h.marks.same (fun k hk => hb k (h.marks.2 k hk)), h.ints.same (fun k hk => hb k (h.ints.2 k hk)), h.nums.same (fun k hk => hb k (h.nums.2 k hk))⟩

theorem LawAt.below {O : Nat → Prop} {w w' : World} {wb : Nat} {L : LawS} {av tv mv iv nv : Value} (h : LawAt O w wb L av tv mv iv nv) (hb : Below w.heap.size w w') : LawAt O w' wb L av tv mv iv nv :=
  h.keep hb.size (fun k hk => hb.block k (h.lt k hk))

/-- The list v of the caller's reads as its mark m all over, in a block of K. -/
def KeptT (K : Nat → Prop) (w : World) (v : Value) (m : ByteArray) : Prop :=
  v = .slice none 0 0 ∨ ∃ b n cap, v = .slice (some ⟨b, 0, none⟩) n cap ∧ K b ∧ n ≤ 3000000 ∧ ∀ i, i < n → w.cell? ⟨b, i, none⟩ = some (.string m)
def KeptI (K : Nat → Prop) (w : World) (v : Value) (m : Int) : Prop :=
  v = .slice none 0 0 ∨ ∃ b n cap, v = .slice (some ⟨b, 0, none⟩) n cap ∧ K b ∧ n ≤ 3000000 ∧ ∀ i, i < n → w.cell? ⟨b, i, none⟩ = some (.int .i64 m)

theorem KeptT.keep {K K' : Nat → Prop} {w w' : World} {v : Value} {m : ByteArray} (h : KeptT K w v m) (hb : ∀ k, K k → w'.heap[k]? = w.heap[k]?) (hm : ∀ k, K k → K' k) : KeptT K' w' v m := by
  rcases h with h | ⟨b, n, cap, rfl, hk, hn, hc⟩
  · exact .inl h
  · exact .inr ⟨b, n, cap, rfl, hm b hk, hn, fun i hi => (World.cell?_of_block (w := w) (hb b hk)).trans (hc i hi)⟩
theorem KeptI.keep {K K' : Nat → Prop} {w w' : World} {v : Value} {m : Int} (h : KeptI K w v m) (hb : ∀ k, K k → w'.heap[k]? = w.heap[k]?) (hm : ∀ k, K k → K' k) : KeptI K' w' v m := by
  rcases h with h | ⟨b, n, cap, rfl, hk, hn, hc⟩
  · exact .inl h
  · exact .inr ⟨b, n, cap, rfl, hm b hk, hn, fun i hi => (World.cell?_of_block (w := w) (hb b hk)).trans (hc i hi)⟩

/-- All lists that the owner keeps still read as marked. -/
structure Kept (K : Nat → Prop) (w : World) (L : LawS) : Prop where
  lt : ∀ b, K b → b < w.heap.size
  tl : L.texts.length = L.marks.length
  il : L.ints.length = L.nums.length
  t : ∀ k, k < L.texts.length → KeptT K w (L.texts.getD k undef) (L.marks.getD k ByteArray.empty)
  i : ∀ k, k < L.ints.length → KeptI K w (L.ints.getD k undef) (L.nums.getD k 0)

theorem Kept.keep {K : Nat → Prop} {w w' : World} {L : LawS} (h : Kept K w L) (hs : w.heap.size ≤ w'.heap.size) (hb : ∀ k, K k → w'.heap[k]? = w.heap[k]?) : Kept K w' L :=
  ⟨fun b hb => Nat.lt_of_lt_of_le (h.lt b hb) hs, h.tl, h.il, fun k hk => (h.t k hk).keep hb (fun _ h => h), fun k hk => (h.i k hk).keep hb (fun _ h => h)⟩

theorem law_cells {O : Nat → Prop} {w w' : World} {o : Obj} {wb : Nat} {L : LawS} {av tv mv iv nv : Value} (h : LawAt O w wb L av tv mv iv nv) {row : Option Nat} (hg : (w.alloc o).grownBy w' row) (hne : row ≠ some wb) :
    w'.heap[wb]? = some (.cells #[av, tv, mv, iv, nv, .int .i64 (L.n : Int)] 63 (0, 0)) := by
  have := h.lt wb h.self
  rw [hg.block wb (by simp; omega) (fun e => hne e.symm), Below.heap_alloc _ _ _ this]
  exact h.cells

theorem Row.grown {O O' : Nat → Prop} {w w' : World} {o : Obj} {e : TypeId} {v : Value} {xs : List Value} {row : Option Nat} (h : Row O w e v xs) (hg : (w.alloc o).grownBy w' row) (hne : v.ownBlock = none ∨ v.ownBlock ≠ row) (hm : ∀ b, O b → O' b) : Row O' w' e v xs :=
  ⟨(h.1.alloc o).kept hg hne, fun k hk => hm k (h.2 k hk)⟩

theorem Row.stored {O : Nat → Prop} {w : World} {wb j : Nat} {u : Value} {e : TypeId} {v : Value} {xs : List Value} (h : Row O w e v xs) (hne : v.ownBlock ≠ some wb) : Row O (w.setCell ⟨wb, j, none⟩ u) e v xs :=
  h.same (fun k hk => Below.heap_setCell _ _ _ _ (fun e => by subst e; exact hne hk))

theorem LawAt.grow_tbs {O : Nat → Prop} {w w' : World} {o : Obj} {wb : Nat} {L : LawS} {av tv mv iv nv v' : Value} (x : Nat) (h : LawAt O w wb L av tv mv iv nv) (hg : (w.alloc o).grownBy w' av.ownBlock) (hp : Placed (w.alloc o) av v')
    (ho : w'.ownsRow 0 109 1 v' (L.tbs.length + 1) ((L.tbs.map tptr) ++ [tptr x])) :
    LawAt (fun b => O b ∨ v'.ownBlock = some b) (w'.setCell ⟨wb, 0, none⟩ v') wb { L with tbs := L.tbs ++ [x] } v' tv mv iv nv ∧ Only O w (w'.setCell ⟨wb, 0, none⟩ v') := by
  have hn : av.ownBlock ≠ some wb := row_ne_type h.cells h.tbs.1 (by decide)
  have hcell := law_cells h hg hn
  have hne' : v'.ownBlock ≠ some wb := by
    intro e
    rcases hp wb e with e' | e'
    · exact hn e'
    · have := h.lt wb h.self; simp at e'; omega
  have hs : w.heap.size ≤ w'.heap.size := by have := hg.size; simp at this; omega
  refine ⟨⟨?_, .inl h.self, ?_, ?_, ?_, ?_, ?_, ?_⟩, ?_⟩
  · intro b hb
    rw [show (w'.setCell ⟨wb, 0, none⟩ v').heap.size = w'.heap.size by simp [World.setCell]]
    rcases hb with hb | hb
    · have := h.lt b hb; omega
    · exact (ho.lt b hb).2
  · rw [heap_setCell_at hcell]; rfl
  · refine Row.stored (O := fun b => O b ∨ v'.ownBlock = some b) ⟨?_, fun k hk => .inr hk⟩ hne'
    simpa using ho
  · exact (h.texts.grown hg (apart_of_types h.texts.1 h.tbs.1 (by decide)) (fun b hb => .inl hb)).stored (row_ne_type h.cells h.texts.1 (by decide))
  · exact (h.marks.grown hg (apart_of_types h.marks.1 h.tbs.1 (by decide)) (fun b hb => .inl hb)).stored (row_ne_type h.cells h.marks.1 (by decide))
  · exact (h.ints.grown hg (apart_of_types h.ints.1 h.tbs.1 (by decide)) (fun b hb => .inl hb)).stored (row_ne_type h.cells h.ints.1 (by decide))
  · exact (h.nums.grown hg (apart_of_types h.nums.1 h.tbs.1 (by decide)) (fun b hb => .inl hb)).stored (row_ne_type h.cells h.nums.1 (by decide))
  · exact (((Only.refl O w).alloc o).grown hg (fun k hk => .inl (h.tbs.2 k hk))).setCell (p := ⟨wb, 0, none⟩) (.inl h.self) _

theorem LawAt.grow_texts {O : Nat → Prop} {w w' : World} {o : Obj} {wb : Nat} {L : LawS} {av tv mv iv nv v' : Value} (x : Value) (h : LawAt O w wb L av tv mv iv nv) (hg : (w.alloc o).grownBy w' tv.ownBlock) (hp : Placed (w.alloc o) tv v')
    (ho : w'.ownsRow 0 39 1 v' (L.texts.length + 1) (L.texts ++ [x])) :
    LawAt (fun b => O b ∨ v'.ownBlock = some b) (w'.setCell ⟨wb, 1, none⟩ v') wb { L with texts := L.texts ++ [x] } av v' mv iv nv ∧ Only O w (w'.setCell ⟨wb, 1, none⟩ v') := by
  have hn : tv.ownBlock ≠ some wb := row_ne_type h.cells h.texts.1 (by decide)
  have hcell := law_cells h hg hn
  have hne' : v'.ownBlock ≠ some wb := by
    intro e
    rcases hp wb e with e' | e'
    · exact hn e'
    · have := h.lt wb h.self; simp at e'; omega
  have hs : w.heap.size ≤ w'.heap.size := by have := hg.size; simp at this; omega
  refine ⟨⟨?_, .inl h.self, ?_, ?_, ?_, ?_, ?_, ?_⟩, ?_⟩
  · intro b hb
    rw [show (w'.setCell ⟨wb, 1, none⟩ v').heap.size = w'.heap.size by simp [World.setCell]]
    rcases hb with hb | hb
    · have := h.lt b hb; omega
    · exact (ho.lt b hb).2
  · rw [heap_setCell_at hcell]; rfl
  · exact (h.tbs.grown hg (apart_of_types h.tbs.1 h.texts.1 (by decide)) (fun b hb => .inl hb)).stored (row_ne_type h.cells h.tbs.1 (by decide))
  · refine Row.stored (O := fun b => O b ∨ v'.ownBlock = some b) ⟨?_, fun k hk => .inr hk⟩ hne'
    simpa using ho
  · exact (h.marks.grown hg (apart_of_types h.marks.1 h.texts.1 (by decide)) (fun b hb => .inl hb)).stored (row_ne_type h.cells h.marks.1 (by decide))
  · exact (h.ints.grown hg (apart_of_types h.ints.1 h.texts.1 (by decide)) (fun b hb => .inl hb)).stored (row_ne_type h.cells h.ints.1 (by decide))
  · exact (h.nums.grown hg (apart_of_types h.nums.1 h.texts.1 (by decide)) (fun b hb => .inl hb)).stored (row_ne_type h.cells h.nums.1 (by decide))
  · exact (((Only.refl O w).alloc o).grown hg (fun k hk => .inl (h.texts.2 k hk))).setCell (p := ⟨wb, 1, none⟩) (.inl h.self) _

theorem LawAt.grow_marks {O : Nat → Prop} {w w' : World} {o : Obj} {wb : Nat} {L : LawS} {av tv mv iv nv v' : Value} (x : ByteArray) (h : LawAt O w wb L av tv mv iv nv) (hg : (w.alloc o).grownBy w' mv.ownBlock) (hp : Placed (w.alloc o) mv v')
    (ho : w'.ownsRow 0 9 1 v' (L.marks.length + 1) ((L.marks.map Value.string) ++ [Value.string x])) :
    LawAt (fun b => O b ∨ v'.ownBlock = some b) (w'.setCell ⟨wb, 2, none⟩ v') wb { L with marks := L.marks ++ [x] } av tv v' iv nv ∧ Only O w (w'.setCell ⟨wb, 2, none⟩ v') := by
  have hn : mv.ownBlock ≠ some wb := row_ne_type h.cells h.marks.1 (by decide)
  have hcell := law_cells h hg hn
  have hne' : v'.ownBlock ≠ some wb := by
    intro e
    rcases hp wb e with e' | e'
    · exact hn e'
    · have := h.lt wb h.self; simp at e'; omega
  have hs : w.heap.size ≤ w'.heap.size := by have := hg.size; simp at this; omega
  refine ⟨⟨?_, .inl h.self, ?_, ?_, ?_, ?_, ?_, ?_⟩, ?_⟩
  · intro b hb
    rw [show (w'.setCell ⟨wb, 2, none⟩ v').heap.size = w'.heap.size by simp [World.setCell]]
    rcases hb with hb | hb
    · have := h.lt b hb; omega
    · exact (ho.lt b hb).2
  · rw [heap_setCell_at hcell]; rfl
  · exact (h.tbs.grown hg (apart_of_types h.tbs.1 h.marks.1 (by decide)) (fun b hb => .inl hb)).stored (row_ne_type h.cells h.tbs.1 (by decide))
  · exact (h.texts.grown hg (apart_of_types h.texts.1 h.marks.1 (by decide)) (fun b hb => .inl hb)).stored (row_ne_type h.cells h.texts.1 (by decide))
  · refine Row.stored (O := fun b => O b ∨ v'.ownBlock = some b) ⟨?_, fun k hk => .inr hk⟩ hne'
    simpa using ho
  · exact (h.ints.grown hg (apart_of_types h.ints.1 h.marks.1 (by decide)) (fun b hb => .inl hb)).stored (row_ne_type h.cells h.ints.1 (by decide))
  · exact (h.nums.grown hg (apart_of_types h.nums.1 h.marks.1 (by decide)) (fun b hb => .inl hb)).stored (row_ne_type h.cells h.nums.1 (by decide))
  · exact (((Only.refl O w).alloc o).grown hg (fun k hk => .inl (h.marks.2 k hk))).setCell (p := ⟨wb, 2, none⟩) (.inl h.self) _

theorem LawAt.grow_ints {O : Nat → Prop} {w w' : World} {o : Obj} {wb : Nat} {L : LawS} {av tv mv iv nv v' : Value} (x : Value) (h : LawAt O w wb L av tv mv iv nv) (hg : (w.alloc o).grownBy w' iv.ownBlock) (hp : Placed (w.alloc o) iv v')
    (ho : w'.ownsRow 0 25 1 v' (L.ints.length + 1) (L.ints ++ [x])) :
    LawAt (fun b => O b ∨ v'.ownBlock = some b) (w'.setCell ⟨wb, 3, none⟩ v') wb { L with ints := L.ints ++ [x] } av tv mv v' nv ∧ Only O w (w'.setCell ⟨wb, 3, none⟩ v') := by
  have hn : iv.ownBlock ≠ some wb := row_ne_type h.cells h.ints.1 (by decide)
  have hcell := law_cells h hg hn
  have hne' : v'.ownBlock ≠ some wb := by
    intro e
    rcases hp wb e with e' | e'
    · exact hn e'
    · have := h.lt wb h.self; simp at e'; omega
  have hs : w.heap.size ≤ w'.heap.size := by have := hg.size; simp at this; omega
  refine ⟨⟨?_, .inl h.self, ?_, ?_, ?_, ?_, ?_, ?_⟩, ?_⟩
  · intro b hb
    rw [show (w'.setCell ⟨wb, 3, none⟩ v').heap.size = w'.heap.size by simp [World.setCell]]
    rcases hb with hb | hb
    · have := h.lt b hb; omega
    · exact (ho.lt b hb).2
  · rw [heap_setCell_at hcell]; rfl
  · exact (h.tbs.grown hg (apart_of_types h.tbs.1 h.ints.1 (by decide)) (fun b hb => .inl hb)).stored (row_ne_type h.cells h.tbs.1 (by decide))
  · exact (h.texts.grown hg (apart_of_types h.texts.1 h.ints.1 (by decide)) (fun b hb => .inl hb)).stored (row_ne_type h.cells h.texts.1 (by decide))
  · exact (h.marks.grown hg (apart_of_types h.marks.1 h.ints.1 (by decide)) (fun b hb => .inl hb)).stored (row_ne_type h.cells h.marks.1 (by decide))
  · refine Row.stored (O := fun b => O b ∨ v'.ownBlock = some b) ⟨?_, fun k hk => .inr hk⟩ hne'
    simpa using ho
  · exact (h.nums.grown hg (apart_of_types h.nums.1 h.ints.1 (by decide)) (fun b hb => .inl hb)).stored (row_ne_type h.cells h.nums.1 (by decide))
  · exact (((Only.refl O w).alloc o).grown hg (fun k hk => .inl (h.ints.2 k hk))).setCell (p := ⟨wb, 3, none⟩) (.inl h.self) _

theorem LawAt.grow_nums {O : Nat → Prop} {w w' : World} {o : Obj} {wb : Nat} {L : LawS} {av tv mv iv nv v' : Value} (x : Int) (h : LawAt O w wb L av tv mv iv nv) (hg : (w.alloc o).grownBy w' nv.ownBlock) (hp : Placed (w.alloc o) nv v')
    (ho : w'.ownsRow 0 3 1 v' (L.nums.length + 1) ((L.nums.map zv) ++ [zv x])) :
    LawAt (fun b => O b ∨ v'.ownBlock = some b) (w'.setCell ⟨wb, 4, none⟩ v') wb { L with nums := L.nums ++ [x] } av tv mv iv v' ∧ Only O w (w'.setCell ⟨wb, 4, none⟩ v') := by
  have hn : nv.ownBlock ≠ some wb := row_ne_type h.cells h.nums.1 (by decide)
  have hcell := law_cells h hg hn
  have hne' : v'.ownBlock ≠ some wb := by
    intro e
    rcases hp wb e with e' | e'
    · exact hn e'
    · have := h.lt wb h.self; simp at e'; omega
  have hs : w.heap.size ≤ w'.heap.size := by have := hg.size; simp at this; omega
  refine ⟨⟨?_, .inl h.self, ?_, ?_, ?_, ?_, ?_, ?_⟩, ?_⟩
  · intro b hb
    rw [show (w'.setCell ⟨wb, 4, none⟩ v').heap.size = w'.heap.size by simp [World.setCell]]
    rcases hb with hb | hb
    · have := h.lt b hb; omega
    · exact (ho.lt b hb).2
  · rw [heap_setCell_at hcell]; rfl
  · exact (h.tbs.grown hg (apart_of_types h.tbs.1 h.nums.1 (by decide)) (fun b hb => .inl hb)).stored (row_ne_type h.cells h.tbs.1 (by decide))
  · exact (h.texts.grown hg (apart_of_types h.texts.1 h.nums.1 (by decide)) (fun b hb => .inl hb)).stored (row_ne_type h.cells h.texts.1 (by decide))
  · exact (h.marks.grown hg (apart_of_types h.marks.1 h.nums.1 (by decide)) (fun b hb => .inl hb)).stored (row_ne_type h.cells h.marks.1 (by decide))
  · exact (h.ints.grown hg (apart_of_types h.ints.1 h.nums.1 (by decide)) (fun b hb => .inl hb)).stored (row_ne_type h.cells h.ints.1 (by decide))
  · refine Row.stored (O := fun b => O b ∨ v'.ownBlock = some b) ⟨?_, fun k hk => .inr hk⟩ hne'
    simpa using ho
  · exact (((Only.refl O w).alloc o).grown hg (fun k hk => .inl (h.nums.2 k hk))).setCell (p := ⟨wb, 4, none⟩) (.inl h.self) _

end Go.Proofs.YtebfmcafmojlaaaGreatDoor

/-
  copselaw.World: keepTexts: what one round does.
-/
namespace Go.Proofs.YtebfmcafmojlaaaGreatDoor
open Go.RowKit
set_option linter.unusedSimpArgs false
set_option linter.unusedVariables false

def LawIs (O K : Nat → Prop) (w : World) (wb : Nat) (L : LawS) : Prop := (∃ av tv mv iv nv, LawAt O w wb L av tv mv iv nv) ∧ Kept K w L ∧ ∀ b, O b → ¬ K b

def KeepLPost (O K : Nat → Prop) (w : World) (wb : Nat) (L : LawS) (lv : Value) (w' : World) (nt ni : Nat) : Prop :=
  ∃ O' K' L', LawIs O' K' w' wb L' ∧ L'.tbs = L.tbs ∧ L'.texts.length = L.texts.length + nt ∧ L'.ints.length = L.ints.length + ni ∧ L'.n = L.n + 1 ∧ Only (fun b => O b ∨ lv.ownBlock = some b) w w' ∧ Grows w O O' ∧ (∀ b, K' b → K b ∨ lv.ownBlock = some b ∨ w.heap.size ≤ b)

/-- In the midst of keepTexts: R the lists that it has recorded, lv the list at hand, all of its cells marked. -/
structure KTst (O K : Nat → Prop) (w : World) (wb : Nat) (L : LawS) (lv0 : Value) (n : Nat) (m : ByteArray) (wr : World) (kt km kl : Nat) (lv : Value) (O' KR : Nat → Prop) (R : List Value) (av tv mv iv nv : Value) : Prop where
  law : LawAt O' wr wb { L with n := L.n + 1, texts := L.texts ++ R, marks := L.marks ++ List.replicate km m } av tv mv iv nv
  rl : R.length = kt
  kept : Kept K wr L
  ok : ∀ b, O' b → ¬ K b
  okr : ∀ b, O' b → ¬ KR b
  krl : ∀ b, KR b → b < wr.heap.size
  kkr : ∀ b, K b → ¬ KR b
  recd : ∀ v ∈ R, KeptT KR wr v m
  len : ∀ v ∈ R, ∀ b j cap, v = .slice (some ⟨b, 0, none⟩) j cap → j ≤ n + kl
  row : wr.ownsRow 0 9 1 lv (n + kl) (List.replicate (n + kl) (Value.string m))
  lvk : ∀ b, lv.ownBlock = some b → KR b
  only : Only (fun b => O b ∨ lv0.ownBlock = some b) w wr
  grows : Grows w O O'
  krg : ∀ b, KR b → lv0.ownBlock = some b ∨ w.heap.size ≤ b

def KTrel (O K : Nat → Prop) (w : World) (wb : Nat) (L : LawS) (lv0 : Value) (n : Nat) (m : ByteArray) (wr : World) (k : Nat) (lv : Value) : Prop := ∃ O' KR R av tv mv iv nv, KTst O K w wb L lv0 n m wr k k k lv O' KR R av tv mv iv nv

theorem gen_len {w : World} {base : Nat} {e : TypeId} {size : Nat} {v : Value} {n : Nat} {xs : List Value} (h : w.ownsRow base e size v n xs) : ∃ N, w.ownsRow base e size v N xs := ⟨n, h⟩

theorem kept_of_row {KR : Nat → Prop} {wr : World} {lv : Value} {n : Nat} {m : ByteArray} (h : wr.ownsRow 0 9 1 lv n (List.replicate n (Value.string m))) (hk : ∀ b, lv.ownBlock = some b → KR b) (hn : n ≤ 3000000) : KeptT KR wr lv m := by
  have hc := fun g hg => h.cells (g := g) hg
  rcases h.2 with ⟨rfl, _⟩ | ⟨g, cap, cur, rfl, _⟩
  · exact .inl rfl
  · refine .inr ⟨g, n, cap, rfl, hk g rfl, hn, fun i hi => ?_⟩
    have := hc g rfl i (Value.string m) (by rw [List.getElem?_replicate]; simp [hi])
    have hadd : (⟨g, 0, none⟩ : Addr).add i = ⟨g, i, none⟩ := by unfold Addr.add; split <;> simp_all
    rw [hadd] at this
    exact this

theorem KTst.texts {O K : Nat → Prop} {w : World} {wb : Nat} {L : LawS} {lv0 : Value} {n : Nat} {m : ByteArray} {wr : World} {kt km kl : Nat} {lv : Value} {O' KR : Nat → Prop} {R : List Value} {av tv mv iv nv : Value}
    (h : KTst O K w wb L lv0 n m wr kt km kl lv O' KR R av tv mv iv nv) {w' : World} {o : Obj} {v' : Value} (hn : n + kl ≤ 3000000) (hg : (wr.alloc o).grownBy w' tv.ownBlock) (hp : Placed (wr.alloc o) tv v')
    {N : Nat} (ho : w'.ownsRow 0 39 1 v' N ((L.texts ++ R) ++ [lv])) :
    KTst O K w wb L lv0 n m (w'.setCell ⟨wb, 1, none⟩ v') (kt + 1) km kl lv (fun b => O' b ∨ v'.ownBlock = some b) KR (R ++ [lv]) av v' mv iv nv := by
  have hN : N = (L.texts ++ R).length + 1 := by have := ho.1; simp at this; simp; omega
  subst hN
  obtain ⟨hl, hon⟩ := h.law.grow_texts (x := lv) hg hp ho
  have hsz : wr.heap.size ≤ (w'.setCell ⟨wb, 1, none⟩ v').heap.size := hon.size
  have hvn : ∀ b, v'.ownBlock = some b → O' b ∨ wr.heap.size ≤ b := by
    intro b hb
    rcases hp b hb with e | e
    · exact .inl (h.law.texts.2 b e)
    · simp at e; exact .inr (by omega)
  have hkr : ∀ k, KR k → (w'.setCell ⟨wb, 1, none⟩ v').heap[k]? = wr.heap[k]? := fun k hk => hon.block k (h.krl k hk) (fun e => h.okr k e hk)
  refine ⟨?_, ?_, ?_, ?_, ?_, ?_, h.kkr, ?_, ?_, ?_, h.lvk, ?_, ?_, h.krg⟩
  · have : ({ L with n := L.n + 1, texts := L.texts ++ (R ++ [lv]), marks := L.marks ++ List.replicate km m } : LawS) = { ({ L with n := L.n + 1, texts := L.texts ++ R, marks := L.marks ++ List.replicate km m } : LawS) with texts := (L.texts ++ R) ++ [lv] } := by simp
    rw [this]
    exact hl
  · simp [h.rl]
  · exact h.kept.keep hsz (fun k hk => hon.block k (h.kept.lt k hk) (fun e => h.ok k e hk))
  · intro b hb hk
    rcases hb with hb | hb
    · exact h.ok b hb hk
    · rcases hvn b hb with e | e
      · exact h.ok b e hk
      · have := h.kept.lt b hk; omega
  · intro b hb hk
    rcases hb with hb | hb
    · exact h.okr b hb hk
    · rcases hvn b hb with e | e
      · exact h.okr b e hk
      · have := h.krl b hk; omega
  · intro b hb; have := h.krl b hb; omega
  · intro v hv
    rcases List.mem_append.1 hv with hv | hv
    · exact (h.recd v hv).keep hkr (fun _ h => h)
    · simp at hv; subst hv
      exact (kept_of_row h.row h.lvk hn).keep hkr (fun _ h => h)
  · intro v hv b j cap e
    rcases List.mem_append.1 hv with hv | hv
    · exact h.len v hv b j cap e
    · simp at hv; subst hv
      obtain ⟨ao, c, e2⟩ := owns_form h.row
      rw [e2] at e
      simp at e
      omega
  · exact owns_same h.row (fun k hk => hkr k (h.lvk k hk))
  · refine h.only.trans hon ?_
    intro b hb
    rcases h.grows b hb with e | e
    · exact .inl (.inl e)
    · exact .inr e
  · intro b hb
    rcases hb with hb | hb
    · exact h.grows b hb
    · rcases hvn b hb with e | e
      · exact h.grows b e
      · have := h.only.size; exact .inr (by omega)

theorem KTst.marks {O K : Nat → Prop} {w : World} {wb : Nat} {L : LawS} {lv0 : Value} {n : Nat} {m : ByteArray} {wr : World} {kt km kl : Nat} {lv : Value} {O' KR : Nat → Prop} {R : List Value} {av tv mv iv nv : Value}
    (h : KTst O K w wb L lv0 n m wr kt km kl lv O' KR R av tv mv iv nv) {w' : World} {o : Obj} {v' : Value} (hg : (wr.alloc o).grownBy w' mv.ownBlock) (hp : Placed (wr.alloc o) mv v')
    {N : Nat} (ho : w'.ownsRow 0 9 1 v' N ((L.marks ++ List.replicate km m).map Value.string ++ [Value.string m])) :
    KTst O K w wb L lv0 n m (w'.setCell ⟨wb, 2, none⟩ v') kt (km + 1) kl lv (fun b => O' b ∨ v'.ownBlock = some b) KR R av tv v' iv nv := by
  have hN : N = (L.marks ++ List.replicate km m).length + 1 := by have := ho.1; simp at this; simp; omega
  subst hN
  obtain ⟨hl, hon⟩ := h.law.grow_marks (x := m) hg hp ho
  have hsz : wr.heap.size ≤ (w'.setCell ⟨wb, 2, none⟩ v').heap.size := hon.size
  have hvn : ∀ b, v'.ownBlock = some b → O' b ∨ wr.heap.size ≤ b := by
    intro b hb
    rcases hp b hb with e | e
    · exact .inl (h.law.marks.2 b e)
    · simp at e; exact .inr (by omega)
  have hkr : ∀ k, KR k → (w'.setCell ⟨wb, 2, none⟩ v').heap[k]? = wr.heap[k]? := fun k hk => hon.block k (h.krl k hk) (fun e => h.okr k e hk)
  refine ⟨?_, h.rl, ?_, ?_, ?_, ?_, h.kkr, ?_, h.len, ?_, h.lvk, ?_, ?_, h.krg⟩
  · have : ({ L with n := L.n + 1, texts := L.texts ++ R, marks := L.marks ++ List.replicate (km + 1) m } : LawS) = { ({ L with n := L.n + 1, texts := L.texts ++ R, marks := L.marks ++ List.replicate km m } : LawS) with marks := (L.marks ++ List.replicate km m) ++ [m] } := by
      simp [List.replicate_succ']
    rw [this]
    exact hl
  · exact h.kept.keep hsz (fun k hk => hon.block k (h.kept.lt k hk) (fun e => h.ok k e hk))
  · intro b hb hk
    rcases hb with hb | hb
    · exact h.ok b hb hk
    · rcases hvn b hb with e | e
      · exact h.ok b e hk
      · have := h.kept.lt b hk; omega
  · intro b hb hk
    rcases hb with hb | hb
    · exact h.okr b hb hk
    · rcases hvn b hb with e | e
      · exact h.okr b e hk
      · have := h.krl b hk; omega
  · intro b hb; have := h.krl b hb; omega
  · intro v hv
    exact (h.recd v hv).keep hkr (fun _ h => h)
  · exact owns_same h.row (fun k hk => hkr k (h.lvk k hk))
  · refine h.only.trans hon ?_
    intro b hb
    rcases h.grows b hb with e | e
    · exact .inl (.inl e)
    · exact .inr e
  · intro b hb
    rcases hb with hb | hb
    · exact h.grows b hb
    · rcases hvn b hb with e | e
      · exact h.grows b e
      · have := h.only.size; exact .inr (by omega)

theorem KTst.lvs {O K : Nat → Prop} {w : World} {wb : Nat} {L : LawS} {lv0 : Value} {n : Nat} {m : ByteArray} {wr : World} {kt km kl : Nat} {lv : Value} {O' KR : Nat → Prop} {R : List Value} {av tv mv iv nv : Value}
    (h : KTst O K w wb L lv0 n m wr kt km kl lv O' KR R av tv mv iv nv) {w' : World} {o : Obj} {v' : Value} (hg : (wr.alloc o).grownBy w' lv.ownBlock) (hp : Moved (wr.alloc o) w' lv v')
    (ho : w'.ownsRow 0 9 1 v' (n + kl + 1) (List.replicate (n + kl) (Value.string m) ++ [Value.string m])) :
    KTst O K w wb L lv0 n m w' kt km (kl + 1) v' O' (fun b => KR b ∨ v'.ownBlock = some b) R av tv mv iv nv := by
  have hon : Only KR wr w' := ((Only.refl KR wr).alloc o).grown hg (fun k hk => .inl (h.lvk k hk))
  have hsz : wr.heap.size ≤ w'.heap.size := hon.size
  have hrow : w'.ownsRow 0 9 1 v' (n + (kl + 1)) (List.replicate (n + (kl + 1)) (Value.string m)) := by
    have e : n + (kl + 1) = n + kl + 1 := by omega
    rw [e, List.replicate_succ']
    exact ho
  have hvn : ∀ b, v'.ownBlock = some b → KR b ∨ wr.heap.size ≤ b := by
    intro b hb
    rcases hp.placed b hb with e | e
    · exact .inl (h.lvk b e)
    · simp at e; exact .inr (by omega)
  refine ⟨?_, h.rl, ?_, h.ok, ?_, ?_, ?_, ?_, ?_, hrow, fun b hb => .inr hb, ?_, h.grows, ?_⟩
  · exact h.law.keep hsz (fun k hk => hon.block k (h.law.lt k hk) (fun e => h.okr k hk e))
  · exact h.kept.keep hsz (fun k hk => hon.block k (h.kept.lt k hk) (fun e => h.kkr k hk e))
  · intro b hb hk
    rcases hk with hk | hk
    · exact h.okr b hb hk
    · rcases hvn b hk with e | e
      · exact h.okr b hb e
      · have := h.law.lt b hb; omega
  · intro b hb
    rcases hb with hb | hb
    · have := h.krl b hb; omega
    · exact (ho.lt b hb).2
  · intro b hb hk
    rcases hk with hk | hk
    · exact h.kkr b hb hk
    · rcases hvn b hk with e | e
      · exact h.kkr b hb e
      · have := h.kept.lt b hb; omega
  · intro v hv
    rcases h.recd v hv with e | ⟨b, j, cap, rfl, hkb, hj, hc⟩
    · exact .inl e
    · refine .inr ⟨b, j, cap, rfl, .inl hkb, hj, fun i hi => ?_⟩
      have hjl := h.len _ hv b j cap rfl
      rcases hp with ⟨g, h1, h2⟩ | ⟨hbel, _⟩
      · by_cases hgb : g = b
        · subst hgb
          have := ho.cells (g := g) h2 i (Value.string m) (by
            rw [← List.replicate_succ', List.getElem?_replicate]; rw [if_pos (by omega)])
          have hadd : (⟨g, 0, none⟩ : Addr).add i = ⟨g, i, none⟩ := by unfold Addr.add; split <;> simp_all
          rw [hadd] at this
          exact this
        · have hbl := h.krl b hkb
          have := hg.block b (by simp; omega) (by rw [h1]; simp; exact fun e => hgb e.symm)
          rw [World.cell?_of_block (w := wr) (this.trans (Below.heap_alloc _ _ _ hbl))]
          exact hc i hi
      · have hbl := h.krl b hkb
        have := hbel.block b (by simp; omega)
        rw [World.cell?_of_block (w := wr) (this.trans (Below.heap_alloc _ _ _ hbl))]
        exact hc i hi
  · intro v hv b j cap e
    have := h.len v hv b j cap e
    omega
  · refine h.only.trans hon ?_
    intro b hb
    rcases h.krg b hb with e | e
    · exact .inl (.inr e)
    · exact .inr e
  · intro b hb
    rcases hb with hb | hb
    · exact h.krg b hb
    · rcases hvn b hb with e | e
      · exact h.krg b e
      · have := h.only.size; exact .inr (by omega)

theorem ktst_start {O K : Nat → Prop} {w : World} {wb : Nat} {L : LawS} {lv : Value} {n : Nat} {m : ByteArray} {W1 wr : World} {av tv mv iv nv : Value}
    (hL : LawAt O W1 wb { L with n := L.n + 1 } av tv mv iv nv) (hK : Kept K W1 L) (hd : ∀ b, O b → ¬ K b) (hl0 : ∀ k, lv.ownBlock = some k → ¬ O k ∧ ¬ K k) (ho1 : Only O w W1) (hrow : wr.ownsRow 0 9 1 lv n (List.replicate n (Value.string m))) (ho : Only (fun b => lv.ownBlock = some b) W1 wr) (hlt : ∀ b, lv.ownBlock = some b → b < w.heap.size) :
    KTst O K w wb L lv n m wr 0 0 0 lv O (fun b => lv.ownBlock = some b) [] av tv mv iv nv := by
  refine ⟨?_, rfl, ?_, hd, ?_, ?_, ?_, ?_, ?_, hrow, fun b hb => hb, ?_, Grows.refl _ _, fun b hb => .inl hb⟩
  · have := hL.keep ho.size (fun k hk => ho.block k (hL.lt k hk) (fun e => (hl0 k e).1 hk))
    simpa using this
  · exact hK.keep ho.size (fun k hk => ho.block k (hK.lt k hk) (fun e => (hl0 k e).2 hk))
  · intro b hb e; exact (hl0 b e).1 hb
  · intro b hb; exact (hrow.lt b hb).2
  · intro b hb e; exact (hl0 b e).2 hb
  · intro v hv; simp at hv
  · intro v hv; simp at hv
  · refine (ho1.mono (O' := fun b => O b ∨ lv.ownBlock = some b) (fun b hb => .inl hb)).trans (ho.mono (O' := fun b => O b ∨ lv.ownBlock = some b) (fun b hb => .inr hb)) (Grows.refl _ _)

theorem ktst_end {O K : Nat → Prop} {w : World} {wb : Nat} {L : LawS} {lv0 : Value} {n : Nat} {m : ByteArray} {wr : World} {lv : Value} {O' KR : Nat → Prop} {R : List Value} {av tv mv iv nv : Value}
    (h : KTst O K w wb L lv0 n m wr 4 4 4 lv O' KR R av tv mv iv nv) : KeepLPost O K w wb L lv0 wr 4 0 := by
  refine ⟨O', fun b => K b ∨ KR b, _, ⟨⟨av, tv, mv, iv, nv, h.law⟩, ⟨?_, ?_, h.kept.il, ?_, ?_⟩, ?_⟩, rfl, ?_, rfl, rfl, h.only, h.grows, ?_⟩
  · intro b hb
    rcases hb with hb | hb
    · exact h.kept.lt b hb
    · exact h.krl b hb
  · simp [h.rl, h.kept.tl]
  · intro k hk
    simp only [List.length_append, h.rl] at hk
    by_cases hko : k < L.texts.length
    · have h1 : (L.texts ++ R).getD k undef = L.texts.getD k undef := by
        rw [List.getD_eq_getElem?_getD, List.getD_eq_getElem?_getD, List.getElem?_append_left hko]
      have h2 : (L.marks ++ List.replicate 4 m).getD k ByteArray.empty = L.marks.getD k ByteArray.empty := by
        rw [List.getD_eq_getElem?_getD, List.getD_eq_getElem?_getD, List.getElem?_append_left (by rw [← h.kept.tl]; exact hko)]
      show KeptT _ _ ((L.texts ++ R).getD k undef) ((L.marks ++ List.replicate 4 m).getD k ByteArray.empty)
      rw [h1, h2]
      exact (h.kept.t k hko).keep (fun _ _ => rfl) (fun _ hb => .inl hb)
    · have hkr : k - L.texts.length < R.length := by rw [h.rl]; omega
      have h1 : (L.texts ++ R).getD k undef = R[k - L.texts.length] := by
        rw [List.getD_eq_getElem?_getD, List.getElem?_append_right (by omega), List.getElem?_eq_getElem hkr]; rfl
      have h2 : (L.marks ++ List.replicate 4 m).getD k ByteArray.empty = m := by
        rw [List.getD_eq_getElem?_getD, List.getElem?_append_right (by rw [← h.kept.tl]; omega), List.getElem?_replicate]
        rw [if_pos (by rw [← h.kept.tl]; omega)]; rfl
      show KeptT _ _ ((L.texts ++ R).getD k undef) ((L.marks ++ List.replicate 4 m).getD k ByteArray.empty)
      rw [h1, h2]
      exact (h.recd _ (List.getElem_mem hkr)).keep (fun _ _ => rfl) (fun _ hb => .inr hb)
  · intro k hk
    exact (h.kept.i k hk).keep (fun _ _ => rfl) (fun _ hb => .inl hb)
  · intro b hb hk
    rcases hk with hk | hk
    · exact h.ok b hb hk
    · exact h.okr b hb hk
  · simp [h.rl]
  · intro b hb
    rcases hb with hb | hb
    · exact .inl hb
    · exact .inr (h.krg b hb)

theorem marks_owns {O K : Nat → Prop} {w : World} {wb : Nat} {L : LawS} {lv0 : Value} {n : Nat} {m : ByteArray} {wr : World} {kt km kl : Nat} {lv : Value} {O' KR : Nat → Prop} {R : List Value} {av tv mv iv nv : Value} {o : Obj}
    (h : KTst O K w wb L lv0 n m wr kt km kl lv O' KR R av tv mv iv nv) : (wr.alloc o).ownsRow 0 9 1 mv (L.marks ++ List.replicate km m).length ((L.marks ++ List.replicate km m).map Value.string) := by
  have := h.law.marks.1.alloc o
  rwa [List.length_map] at this

end Go.Proofs.YtebfmcafmojlaaaGreatDoor

