/-
  slices.Index, slices.Contains over texts; copse: Restrict, Eval.
-/
import Derived.Test.YtebfmcafmojlaaaGreatDoorT22
namespace Go.Proofs.YtebfmcafmojlaaaGreatDoor
open Go.RowKit Go.Maps
set_option linter.unusedSimpArgs false
set_option linter.unusedVariables false

theorem beq_swap (a b : ByteArray) : (a.toList == b.toList) = (b.toList == a.toList) := by
  rw [Bool.eq_iff_iff, beq_iff_eq, beq_iff_eq]
  exact ⟨Eq.symm, Eq.symm⟩

theorem pow_wrap0 : wrap64 ((2 : Int) ^ 0) = ((2 ^ 0 : Nat) : Int) := by kernel_rfl
theorem pow_wrap1 : wrap64 ((2 : Int) ^ 1) = ((2 ^ 1 : Nat) : Int) := by kernel_rfl
theorem pow_wrap2 : wrap64 ((2 : Int) ^ 2) = ((2 ^ 2 : Nat) : Int) := by kernel_rfl
theorem pow_wrap3 : wrap64 ((2 : Int) ^ 3) = ((2 ^ 3 : Nat) : Int) := by kernel_rfl
theorem pow_wrap4 : wrap64 ((2 : Int) ^ 4) = ((2 ^ 4 : Nat) : Int) := by kernel_rfl
theorem pow_wrap5 : wrap64 ((2 : Int) ^ 5) = ((2 ^ 5 : Nat) : Int) := by kernel_rfl
theorem pow_wrap6 : wrap64 ((2 : Int) ^ 6) = ((2 ^ 6 : Nat) : Int) := by kernel_rfl
theorem pow_wrap (n : Nat) (hn : n ≤ 6) : wrap64 ((2 : Int) ^ n) = ((2 ^ n : Nat) : Int) := by
  have : n = 0 ∨ n = 1 ∨ n = 2 ∨ n = 3 ∨ n = 4 ∨ n = 5 ∨ n = 6 := by omega
  rcases this with rfl | rfl | rfl | rfl | rfl | rfl | rfl
  · exact pow_wrap0
  · exact pow_wrap1
  · exact pow_wrap2
  · exact pow_wrap3
  · exact pow_wrap4
  · exact pow_wrap5
  · exact pow_wrap6

set_option maxHeartbeats 400000 in
theorem slicesIndexS_is (v : Value) (l : List ByteArray) (name : ByteArray) (w : World) {B : Nat} (hr : Reads B w v (l.map Value.string)) (hl : l.length < 1000000000) :
    Calls Tryz.prog 46 #[v, .string name] w fun e w' => e = .returned (.int .i64 (namedI l name)) ∧ w' = w := by
  rcases hr with ⟨rfl, h0⟩ | ⟨b, off, cap, rfl, hlt, hc⟩
  · have : l = [] := by simpa using h0
    subst this
    go_enter Tryz.func46, Tryz.ntmps46
    go_wp2
    go_loop [8] (fun i => i = .int .i64 0) (fun _ => 0)
    case atStart => rfl
    case round =>
      subst hrel
      go_wp2
      go_ret
      exact ⟨rfl, rfl⟩
  · simp only [List.length_map] at hc ⊢
    have hcx : ∀ i, i < l.length → w.cell? ⟨b, off + i, none⟩ = some (.string (l.getD i ByteArray.empty)) := by
      intro i hi
      rw [hc i hi]
      simp [hi]
    clear hc
    go_enter Tryz.func46, Tryz.ntmps46
    go_wp2
    go_loop [8] (fun i => ∃ k : Nat, k ≤ l.length ∧ i = .int .i64 k ∧ ∀ j, j < k → ((l.getD j ByteArray.empty).toList == name.toList) = false) (fun i => l.length - (intOf i).toNat)
    case atStart => exact ⟨0, Nat.zero_le _, rfl, fun j hj => by omega⟩
    case round =>
      obtain ⟨k, hk, rfl, hn⟩ := hrel
      have HN : Hid (∀ j, j < k → ((l.getD j ByteArray.empty).toList == name.toList) = false) := hn
      clear hn
      by_cases hlt : k < l.length
      · have hcell := hcx k hlt
        clear hcx
        obtain ⟨x, hx⟩ : ∃ x, x = l.getD k ByteArray.empty := ⟨_, rfl⟩
        rw [← hx] at hcell
        have HX : Hid (x = l.getD k ByteArray.empty) := hx
        clear hx
        cases he : (name.toList == x.toList)
        · have HE : Hid _ := he
          go_wp2
          go_round
          case rel => exact ⟨k + 1, by omega, by go_num, fun j hj => by
            by_cases h : j < k
            · exact HN.out j h
            · have : j = k := by omega
              subst this; rw [← HX.out, beq_swap]; exact HE.out⟩
          case measure => simp [intOf]; omega
        · have HE : Hid _ := he
          go_wp2
          go_ret
          exact ⟨retI (named_hit l name k hlt HN.out (by rw [← HX.out, beq_swap]; exact HE.out)).symm, rfl⟩
      · clear hcx
        go_wp2
        go_ret
        exact ⟨retI (named_miss l name (fun j hj => HN.out j (by omega))).symm, rfl⟩

set_option maxHeartbeats 400000 in
theorem slicesContainsS_is (v : Value) (l : List ByteArray) (name : ByteArray) (w : World) {B : Nat} (hr : Reads B w v (l.map Value.string)) (hl : l.length < 1000000000) :
    Calls Tryz.prog 53 #[v, .string name] w fun e w' => e = .returned (.bool (decide (0 ≤ namedI l name))) ∧ w' = w := by
  have hi := slicesIndexS_is v l name w hr hl
  obtain ⟨n, hn⟩ : ∃ n, n = namedI l name := ⟨_, rfl⟩
  rw [← hn] at hi ⊢
  clear hn hr
  go_enter Tryz.func53, Tryz.ntmps53
  go_wp2_with (go_at_call 46; refine hi.mono ?_; clear hi; rintro e w' ⟨rfl, rfl⟩)
  go_ret
  exact ⟨rfl, rfl⟩

theorem CopAt.namesRead {O : Nat → Prop} {w : World} {x cap : Nat} {names : List ByteArray} {S : GrS} {nv : Value} {gb lb : Nat} {L : List (Value × Value)} {Og : Nat → Prop} (h : CopAt O w x cap names S nv gb lb L Og) : Reads w.heap.size w nv (names.map Value.string) := h.names.reads

set_option maxHeartbeats 400000 in
set_option maxRecDepth 10000 in
theorem copseRestrict_is {O : Nat → Prop} {w : World} {x : Nat} {C : CopS} (hI : CopI O w x C) (Lt : List Tab) (hL : Lists C Lt) (h : Nat) (f : Tab) (name : ByteArray) (b : Bool) (v : Nat) (hf : C.T h = some f) (hv : C.names.findIdx? (fun y => y.toList == name.toList) = some v) :
    Calls Tryz.prog 112 #[.pointer (some ⟨x, 0, none⟩), .int .i64 h, .string name, .bool b] w (PostTell CopI O w x C (fullC C Lt (given f v b)) (toldC C (given f v b)) (given f v b)) := by
  obtain ⟨cap, names, S, nv, gb, lb, L, Og, rfl, hok, hA⟩ := hI
  obtain ⟨hl1, ht1⟩ := copC_T.1 hf
  have hnI : namedI names name = (v : Nat) := by
    have hv' : names.findIdx? (fun y => y.toList == name.toList) = some v := hv
    unfold namedI
    rw [hv']
  have hvl : v < names.length := by
    have hv' : names.findIdx? (fun y => y.toList == name.toList) = some v := hv
    rw [List.findIdx?_eq_some_iff_getElem] at hv'
    exact hv'.1
  have hn6 := hok.mid.n6
  have hvo : v ∈ S.g.order := (hok.mid.order v).2 hvl
  have hc1 := isLive_yes hok.mid hA hl1
  have c1 : ∀ w1, Below w.heap.size w w1 → w1.cell? ⟨x, 1, none⟩ = some nv ∧ w1.cell? ⟨x, 2, none⟩ = some (.pointer (some ⟨gb, 0, none⟩)) := fun w1 hb => ⟨(hA.below hb).c.2.1, (hA.below hb).c.2.2.1⟩
  have hidx : ∀ w1, Below w.heap.size w w1 → Calls Tryz.prog 46 #[nv, .string name] w1 fun e w' => e = .returned (.int .i64 (v : Nat)) ∧ w' = w1 := by
    intro w1 hb
    have := slicesIndexS_is nv names name w1 (hA.below hb).namesRead (by omega)
    rw [hnI] at this
    exact this
  have hres : ∀ w1, Below w.heap.size w w1 → Calls Tryz.prog 142 #[.pointer (some ⟨gb, 0, none⟩), .int .i64 h, .int .i64 v, .bool b] w1 (WentPost Og w1 gb S (given f v b) 63) := by
    intro w1 hb
    have := graphRestrict_is (hA.below hb).graph hok.mid.k h v b (hok.mid.liveOk hl1) hvo (by have := hok.mid.nlen; omega)
    rw [ht1] at this
    exact this
  have htell : ∀ w1 w2 r S', Below w.heap.size w w1 → GrStep Og w1 gb w2 S' → S.Went S' r (given f v b) 63 → Calls Tryz.prog 55 #[.pointer (some ⟨x, 0, none⟩), .int .i64 (r : Nat)] w2 fun e w' => ∃ a b' : Nat, e = .returned (.tuple #[.int .i64 (a : Nat), .int .i64 (b' : Nat)]) ∧ PostTell CopI O w x (copC cap names S L) (fullC (copC cap names S L) Lt (given f v b)) (toldC (copC cap names S L) (given f v b)) (given f v b) e w' := by
    intro w1 w2 r S' hb hst hw
    obtain ⟨ho, O', Og', hA', hgr⟩ := (hA.below hb).graphed hst
    have hm := hok.went hw
    refine (copseTell_is hm hA' hok.c300 r (by have := hm.small hw.made.ok; unfold refMax; omega)).mono ?_
    intro e w' hp
    obtain ⟨a, b', he⟩ := hp.val
    exact ⟨a, b', he, told_post hok hw (below_then_only hb ho) (fun q hq => (hgr q hq).imp id (fun e => Nat.le_trans hb.size e)) hp Lt hL⟩
  have HT : Hid _ := htell
  have HI : Hid _ := hres
  have H2 : Hid _ := c1
  have HX : Hid _ := hidx
  clear htell hres c1 hidx hok hA hL hf hv hl1 ht1 hnI hvo
  go_enter Tryz.func112, Tryz.ntmps112
  go_wp2_with (first
    | (go_at_call 57; refine hc1.mono ?_; clear hc1; rintro e w1 ⟨rfl, hb1⟩; obtain ⟨q1, q2⟩ := H2.out _ hb1)
    | (go_at_call 46; refine (HX.out _ hb1).mono ?_; clear HX; rintro e w2 ⟨rfl, hq⟩; replace hq := hq.symm; subst hq)
    | (go_at_call 142; refine (HI.out _ hb1).mono ?_; clear HI; rintro e w4 ⟨r, S', rfl, hst, hw⟩; have ht := HT.out _ _ _ _ hb1 hst hw; clear HT hst hw)
    | (go_at_call 55; refine ht.mono ?_; clear ht; rintro e w5 ⟨a', b', rfl, hp⟩))
  go_ret2
  exact hp

set_option maxHeartbeats 400000 in
set_option maxRecDepth 10000 in
theorem copseEval_yes {O : Nat → Prop} {w : World} {x : Nat} {C : CopS} (hI : CopI O w x C) (h : Nat) (f : Tab) (a : Nat) (hf : C.T h = some f) (ha : a < 2 ^ C.names.length) :
    Calls Tryz.prog 93 #[.pointer (some ⟨x, 0, none⟩), .int .i64 h, .int .i64 a] w fun e w' => e = .returned (.tuple #[.bool (f.getLsbD a), .int .i64 0]) ∧ CopStep CopI O w x w' C := by
  have hst := fun w' => hI.step (w' := w')
  obtain ⟨cap, names, S, nv, gb, lb, L, Og, rfl, hok, hA⟩ := hI
  obtain ⟨hl1, ht1⟩ := copC_T.1 hf
  have hc1 := isLive_yes hok.mid hA hl1
  have hn6 := hok.mid.n6
  obtain ⟨nao, ncap, env⟩ := owns_form hA.names.1
  rw [List.length_map] at env
  have ha' : a < 2 ^ names.length := ha
  have hp6 : 2 ^ names.length ≤ 2 ^ 6 := Nat.pow_le_pow_right (by omega) hn6
  have c1 : ∀ w1, Below w.heap.size w w1 → w1.cell? ⟨x, 1, none⟩ = some (.slice nao names.length ncap) ∧ w1.cell? ⟨x, 2, none⟩ = some (.pointer (some ⟨gb, 0, none⟩)) := fun w1 hb => ⟨by rw [← env]; exact (hA.below hb).c.2.1, (hA.below hb).c.2.2.1⟩
  have hev : ∀ w1, Below w.heap.size w w1 → Calls Tryz.prog 147 #[.pointer (some ⟨gb, 0, none⟩), .int .i64 h, .int .i64 a] w1 fun e w' => e = .returned (.bool (f.getLsbD a)) ∧ Below w1.heap.size w1 w' := by
    intro w1 hb
    have := graphEval_is (hA.below hb).graph hok.mid.k h a (hok.mid.liveOk hl1) (by omega)
    rw [ht1] at this
    exact this
  have HS : Hid _ := hst
  have HE : Hid _ := hev
  have H2 : Hid _ := c1
  have HP : Hid (a < 2 ^ names.length) := ha'
  obtain ⟨n, hn⟩ : ∃ n, n = names.length := ⟨_, rfl⟩
  rw [← hn] at H2 HP hn6
  have hpw := pow_wrap n hn6
  obtain ⟨P, hPP⟩ : ∃ P, P = 2 ^ n := ⟨_, rfl⟩
  rw [← hPP] at hpw HP
  have hap : (a : Int) < (P : Int) := by have := HP.out; omega
  have han : ¬ (a : Int) < 0 := by omega
  have hap' : ¬ (P : Int) ≤ (a : Int) := by omega
  clear hst hev c1 hok hA hf hl1 ht1 ha ha' hp6 env hn hPP HP
  go_enter Tryz.func93, Tryz.ntmps93
  go_upto_region 3 with (go_at_call 57; refine hc1.mono ?_; clear hc1; rintro e w1 ⟨rfl, hb1⟩; obtain ⟨q1, q2⟩ := H2.out _ hb1)
  go_wp2_with (go_at_call 147; refine (HE.out _ hb1).mono ?_; clear HE; rintro e w2 ⟨rfl, hb2⟩)
  go_ret2
  exact ⟨rfl, HS.out _ (hb1.trans (hb2.mono hb1.size))⟩

end Go.Proofs.YtebfmcafmojlaaaGreatDoor

/-
  copse: Nodes.
-/
namespace Go.Proofs.YtebfmcafmojlaaaGreatDoor
open Go.RowKit Go.Maps
set_option linter.unusedSimpArgs false
set_option linter.unusedVariables false

theorem marked_count {G : Gr} (k : G.Ok) {A : List Bool} {xs : List (RefT G)} (h : MarkedAll G A xs) : (allT G.order ((xs.map (·.1)).map G.tab)).length = (marksTo A A.length).length := by
  refine k.count (xs.map (·.1)) ?_ (marksTo A A.length) (List.Pairwise.filter _ List.nodup_range) ?_
  · intro r hr
    obtain ⟨x, _, rfl⟩ := List.mem_map.1 hr
    exact x.2.1
  · intro i
    rw [mem_marks]
    constructor
    · intro hi
      obtain ⟨n, hn, _⟩ := h.kids i hi
      exact ⟨⟨n, hn⟩, fun T hT hR => h.least T hT (fun x hx => hR x.1 (List.mem_map.2 ⟨x, hx, rfl⟩)) i hi⟩
    · rintro ⟨_, hr⟩
      refine hr (isM A) ?_ ?_
      · intro j hj n hn
        obtain ⟨n', h1, h2, h3⟩ := h.kids j hj
        rw [hn] at h1
        cases h1
        exact ⟨h2, h3⟩
      · intro r hr
        obtain ⟨x, hx, rfl⟩ := List.mem_map.1 hr
        exact h.self x hx

theorem below_putObj (B : Nat) (W : World) (l : Nat) (o' : Obj) (hl : B ≤ l) : Below B W (W.putObj l o') := by
  refine ⟨rfl, rfl, rfl, by simp [World.putObj], fun k hk => ?_⟩
  simp only [World.putObj]
  rw [Array.getElem?_setIfInBounds_ne (by omega)]

theorem live_refs {G : Gr} {hs : List Nat} (h : ∀ x ∈ hs, G.ok x ∧ x < refMax) : ∃ xs : List (RefT G), xs.map (·.1) = hs := by
  induction hs with
  | nil => exact ⟨[], rfl⟩
  | cons a l ih =>
    obtain ⟨xs, h1⟩ := ih (fun x hx => h x (List.mem_cons_of_mem _ hx))
    exact ⟨⟨a, h a (by simp)⟩ :: xs, by simp [h1]⟩

set_option maxHeartbeats 400000 in
set_option maxRecDepth 100000 in
theorem copseNodes_is {O : Nat → Prop} {w : World} {x : Nat} {C : CopS} (hI : CopI O w x C) (hs : List Nat) (fs : List Tab) (fv : Value) (hr : Reads w.heap.size w fv (hs.map natv)) (hlen : hs.length ≤ 2000000) (hT : hs.map C.T = fs.map some) :
    Calls Tryz.prog 29 #[.pointer (some ⟨x, 0, none⟩), fv] w fun e w' => e = .returned (.tuple #[.int .i64 ((allT C.order fs).length : Nat), .int .i64 0]) ∧ CopStep CopI O w x w' C := by
  have hst := fun w' => hI.step (w' := w')
  obtain ⟨cap, names, S, nv, gb, lb, L, Og, rfl, hok, hA⟩ := hI
  have hlv : ∀ y ∈ hs, liveH L y := by
    intro y hy
    obtain ⟨i, hi, rfl⟩ := List.getElem_of_mem hy
    have h1 := congrArg (·[i]?) hT
    simp only [List.getElem?_map, List.getElem?_eq_getElem hi, Option.map_some] at h1
    have hfl : fs.length = hs.length := by have := congrArg List.length hT; simpa using this.symm
    rw [List.getElem?_eq_getElem (by omega)] at h1
    simp only [Option.map_some, Option.some.injEq] at h1
    exact (copC_T.1 h1).1
  have hfs : hs.map S.g.tab = fs := by
    apply List.ext_getElem?
    intro i
    have h1 := congrArg (·[i]?) hT
    simp only [List.getElem?_map] at h1 ⊢
    cases ch : hs[i]? with
    | none => rw [ch] at h1; cases cf : fs[i]? with
      | none => rfl
      | some f => rw [cf] at h1; simp at h1
    | some y => rw [ch] at h1; cases cf : fs[i]? with
      | none => rw [cf] at h1; simp at h1
      | some f =>
        rw [cf] at h1
        simp only [Option.map_some, Option.some.injEq] at h1
        simp [(copC_T.1 h1).2]
  have hlok : ∀ y ∈ hs, S.g.ok y ∧ y < refMax := fun y hy => ⟨hok.mid.liveOk (hlv y hy), by have := hok.mid.small (hok.mid.liveOk (hlv y hy)); unfold refMax; omega⟩
  obtain ⟨xs, hxs⟩ := live_refs hlok
  have hare := copseAreLive_is (zs := hs.map (fun n : Nat => (n : Int))) (fv := fv) hA.c.2.2.2 (hA.lt x hA.self) hA.live hok.mid.agg (by rw [List.map_map]; exact hr) (by
    intro z hz
    obtain ⟨y, hy, rfl⟩ := List.mem_map.1 hz
    have := hok.mid.small (hok.mid.liveOk (hlv y hy))
    unfold i64ok
    omega) (by simp; omega)
  have hare2 : Calls Tryz.prog 36 #[.pointer (some ⟨x, 0, none⟩), fv] w fun e w' => e = .returned (.bool true) ∧ Below w.heap.size w w' := by
    refine hare.mono ?_
    rintro e w' ⟨b, rfl, h1, h2⟩
    rw [h1.2 (fun z hz => by
      obtain ⟨y, hy, rfl⟩ := List.mem_map.1 hz
      exact hlv y hy)]
    exact ⟨rfl, h2⟩
  have c2 : ∀ w1, Below w.heap.size w w1 → w1.cell? ⟨x, 2, none⟩ = some (.pointer (some ⟨gb, 0, none⟩)) := fun w1 hb => (hA.below hb).c.2.2.1
  obtain ⟨fao, fn, fcap, efv⟩ : ∃ ao n cap, fv = .slice ao n cap := by
    rcases hr with ⟨h, _⟩ | ⟨b, off, cap, h, _⟩
    · exact ⟨none, 0, 0, h⟩
    · exact ⟨_, _, _, h⟩
  have hcount : ∀ w1, Below w.heap.size w w1 → Calls Tryz.prog 70 #[.pointer (some ⟨gb, 0, none⟩), .func (.func 75) #[] #[.pointer (some ⟨w1.heap.size, 0, none⟩)]] (w1.drew.alloc (.cells #[fv] 25)) fun e w' => e = .returned (.int .i64 ((allT S.order fs).length : Nat)) ∧ Below w1.heap.size w1 w' := by
    intro w1 hb
    have hb1 : Below w1.heap.size w1 (w1.drew.alloc (.cells #[fv] 25)) := (Below.refl _ w1).drew.alloc (Nat.le_refl _) _
    have hb2 := hb.trans (hb1.mono hb.size)
    have hsz : (w1.drew.alloc (.cells #[fv] 25)).heap.size = w1.heap.size + 1 := by show (w1.heap.push _).size = _; simp
    have hnew : (w1.drew.alloc (.cells #[fv] 25)).heap[w1.heap.size]? = some (.cells #[fv] 25 (0, 0)) := heap_alloc_new w1.drew _
    have hbs := hb.size
    have hseq := refs_stops (G := S.g) 5 (by omega) xs w1.heap.size fv (w1.drew.alloc (.cells #[fv] 25)) (by rw [cell_of_heap hnew]; rfl) (by omega) (by
      have e : xs.map refCell = hs.map natv := by rw [← hxs, List.map_map]; rfl
      rw [e]
      exact (hr.below hb2 (Nat.le_refl _)).mono (by omega)) (by
      have : xs.length = hs.length := by rw [← hxs, List.length_map]
      omega)
    have hre := graphReach_is (hA.below hb2).graph hok.mid.k (gf := 75) (by intro args w; rfl) hseq (fun h1 h2 => h1.trans h2) (fun W W' _ h => h) (fun W l o o' hl _ _ _ => below_putObj _ W l o' hl)
    refine (graphCount_is hre).mono ?_
    rintro e w' ⟨xs', A, rfl, hm, rfl, hb3⟩
    refine ⟨?_, hb1.trans (hb3.mono hb1.size)⟩
    have := marked_count hok.mid.k hm
    rw [hxs, hfs] at this
    rw [← this]
    rfl
  subst efv
  have HS : Hid _ := hst
  have HC : Hid _ := hcount
  have H2 : Hid _ := c2
  have hrefs := fun W => copseRefs_is fao fn fcap W
  have hN : (copC cap names S L).order = S.order := rfl
  rw [hN]
  obtain ⟨N, hNN⟩ : ∃ N, N = (allT S.order fs).length := ⟨_, rfl⟩
  rw [← hNN] at HC ⊢
  clear hst hcount c2 hare hlv hfs hlok hxs hok hA hr hT hNN hN
  go_enter Tryz.func29, Tryz.ntmps29
  go_upto_region 3 with (go_at_call 36; refine hare2.mono ?_; clear hare2; rintro e w1 ⟨rfl, hb1⟩; have q2 := H2.out _ hb1)
  have hcnt := HC.out _ hb1
  go_region_held (fun w' => w'.cell? ⟨x, 2, none⟩ = some (.pointer (some ⟨gb, 0, none⟩))) (go_keep) (first | (go_at_call 38; refine (hrefs _).mono ?_; clear hrefs; rintro e w2 ⟨rfl, rfl⟩) | (go_at_call 70; refine hcnt.mono ?_; clear hcnt; rintro e w3 ⟨rfl, hb3⟩; have q3 := H2.out _ (hb1.trans (hb3.mono hb1.size))))
  all_goals
    go_wp2_with fail
    go_ret2
    exact ⟨rfl, HS.out _ (hb1.trans (hb3.mono hb1.size))⟩

end Go.Proofs.YtebfmcafmojlaaaGreatDoor

/-
  copse: liveConstants, New.
-/
namespace Go.Proofs.YtebfmcafmojlaaaGreatDoor
open Go.RowKit Go.Maps
set_option linter.unusedSimpArgs false
set_option linter.unusedVariables false

def LiveCPost (w : World) (e : Ending) (w' : World) : Prop :=
  e = .returned (.map (some w.heap.size)) ∧ ∃ L, Below w.heap.size w w' ∧ w.heap.size < w'.heap.size ∧ MapIs Tryz.prog 80 w' w.heap.size L ∧ ∀ p, p ∈ L ↔ p = (natv 0, .agg #[]) ∨ p = (natv 1, .agg #[])

set_option maxHeartbeats 400000 in
set_option maxRecDepth 10000 in
theorem liveConstants_is (w : World) : Calls Tryz.prog 51 #[] w (LiveCPost w) := by
  have hm0 := MapIs.made Tryz.prog 80 w
  have hmm : ∀ (t : TypeId) (w : World), (Instr.makeMap t none).run Tryz.prog w = .ok (.map (some w.heap.size)) (w.alloc (.map #[] 0)) := fun _ _ => rfl
  obtain ⟨w1, L1, hrun1, a1, t1, q1, _, _⟩ := hm0.store ref_keyed Tryz.underlying75 (key := .int .i64 0) (val := .agg #[]) (ref_key_ok 0 (by decide))
  obtain ⟨w2, L2, hrun2, a2, t2, q2, _, _⟩ := a1.store ref_keyed Tryz.underlying75 (key := .int .i64 1) (val := .agg #[]) (ref_key_ok 1 (by decide))
  have hb0 : Below w.heap.size w (w.alloc (.map #[] 0)) := (Below.refl _ w).alloc (Nat.le_refl _) _
  have hs0 : (w.alloc (.map #[] 0)).heap.size = w.heap.size + 1 := by simp
  have hb1 : Below w.heap.size (w.alloc (.map #[] 0)) w1 := ⟨t1.1.os, t1.1.tape, t1.1.output, by rw [t1.2]; exact Nat.le_refl _, fun k hk => t1.1.block k (by omega) (by simp; omega)⟩
  have hb2 : Below w.heap.size w1 w2 := ⟨t2.1.os, t2.1.tape, t2.1.output, by rw [t2.2]; exact Nat.le_refl _, fun k hk => t2.1.block k (by rw [t1.2]; omega) (by simp; omega)⟩
  have hp : LiveCPost w (.returned (.map (some w.heap.size))) w2 := by
    refine ⟨rfl, L2, hb0.trans (hb1.trans hb2), by rw [t2.2, t1.2]; omega, a2, ?_⟩
    intro p
    rw [q2, q1]
    constructor
    · rintro (h | ⟨h | ⟨h, _⟩, _⟩)
      · exact .inr h
      · exact .inl h
      · simp at h
    · rintro (h | h)
      · exact .inr ⟨.inl h, by rw [h]; simp [natv]⟩
      · exact .inl h
  have HP : Hid (LiveCPost w (.returned (.map (some w.heap.size))) w2) := hp
  clear hp hm0 a1 t1 q1 a2 t2 q2 hb0 hs0 hb1 hb2
  go_enter Tryz.func51, Tryz.ntmps51
  go_wp2
  go_ret
  exact HP.out

def NewPost (w : World) (cap : Nat) (e : Ending) (w' : World) : Prop :=
  ∃ x, e = .returned (.tuple #[.pointer (some ⟨x, 0, none⟩), .int .i64 0]) ∧ ∃ O, CopI O w' x ⟨cap, [], [], T0 1 0⟩ ∧ (∀ b, O b → w.heap.size ≤ b) ∧ Below w.heap.size w w'

theorem new_post {w w1 w2 w3 : World} {cap gb : Nat} (h1 : 1 ≤ cap) (h3 : cap ≤ 300) (hg : w.heap.size ≤ gb) (hb1 : Below w.heap.size w w1) (hG : GrIs (fun b => w.heap.size ≤ b ∧ b < w1.heap.size) w1 gb S0) (hl : LiveCPost w1 (.returned (.map (some w1.heap.size))) w2)
    (h4 : w3 = w2.alloc (.cells #[.int .i64 (cap : Nat), .slice none 0 0, .pointer (some ⟨gb, 0, none⟩), .map (some w1.heap.size)] 77)) : NewPost w cap (.returned (.tuple #[.pointer (some ⟨w2.heap.size, 0, none⟩), .int .i64 0])) w3 := by
  obtain ⟨_, L, hb2, hs2, hm, hL⟩ := hl
  have hb3 : Below w2.heap.size w2 w3 := by rw [h4]; exact (Below.refl _ w2).alloc (Nat.le_refl _) _
  have hs3 : w3.heap.size = w2.heap.size + 1 := by rw [h4]; simp
  have hc3 : w3.heap[w2.heap.size]? = some (.cells #[.int .i64 (cap : Nat), .slice none 0 0, .pointer (some ⟨gb, 0, none⟩), .map (some w1.heap.size)] 77 (0, 0)) := by rw [h4]; exact heap_alloc_new w2 _
  have hs1 := hb1.size
  have hG2 := (hG.below hb2).below (hb3.mono (Nat.le_refl _))
  refine ⟨w2.heap.size, rfl, fun b => w.heap.size ≤ b ∧ b < w3.heap.size, ⟨cap, [], S0, .slice none 0 0, gb, w1.heap.size, L, fun b => w.heap.size ≤ b ∧ b < w1.heap.size, ?_, ⟨⟨S0_ok, S0_full, ?_, (hL _).2 (.inl rfl), (hL _).2 (.inr rfl), by intro v; simp [S0], rfl, by simp, fun _ h => h.elim, ?_, by simp [S0], by decide⟩, h1, h3, ?_⟩, ?_⟩, fun b hb => hb.1, ?_⟩
  · have hT : T0 1 0 = (copC cap [] S0 L).T := copT_ext (fun r f => by
      have hl : liveH L r ↔ r = 0 ∨ r = 1 := by
        unfold liveH
        rw [hL]
        constructor
        · rintro (e | e)
          · exact .inl (natv_inj (congrArg Prod.fst e))
          · exact .inr (natv_inj (congrArg Prod.fst e))
        · rintro (e | e) <;> subst e
          · exact .inl rfl
          · exact .inr rfl
      rw [copC_T, hl]
      unfold T0
      by_cases e1 : r = 1
      · subst e1
        rw [if_pos rfl, S0_ok.tab1]
        simp
      · rw [if_neg e1]
        by_cases e0 : r = 0
        · subst e0
          rw [if_pos rfl, S0_ok.tab0]
          simp
        · rw [if_neg e0]
          simp [e0, e1])
    unfold copC at hT ⊢
    simp only [CopS.mk.injEq, true_and]
    exact ⟨rfl, hT⟩
  · intro p hp
    rcases (hL p).1 hp with e | e
    · exact ⟨0, e, .inl rfl⟩
    · exact ⟨1, e, .inl rfl⟩
  · rintro i ⟨n, hn⟩
    rw [S0_node] at hn; cases hn
  · have : S0.nums = [] := by
      apply List.eq_nil_iff_forall_not_mem.2
      intro i hi
      obtain ⟨n, hn⟩ := GrS.mem_nums.1 hi
      rw [S0_node] at hn; cases hn
    rw [this]
    simp
  · refine ⟨fun b hb => hb.2, ⟨by omega, by omega⟩, ⟨by omega, by omega⟩, fun b hb => ⟨hb.1, by omega⟩, hc3, ⟨World.ownsRow_nil _ _ _ _, fun k hk => by cases hk⟩, hG2, hm.same (hb3.block _ hs2), fun h => by omega, fun h => by omega, fun b hb => by cases hb⟩
  · exact hb1.trans ((hb2.mono (by omega)).trans (hb3.mono (by omega)))

set_option maxHeartbeats 400000 in
set_option maxRecDepth 10000 in
theorem copseNew_yes (cap : Nat) (w : World) (h1 : 1 ≤ cap) (h3 : cap ≤ 300) : Calls Tryz.prog 18 #[.int .i64 (cap : Nat)] w (NewPost w cap) := by
  have hg := graphNew_is w
  have hlc := fun W => liveConstants_is W
  have hfin : ∀ w1 w2 gb, w.heap.size ≤ gb → Below w.heap.size w w1 → GrIs (fun b => w.heap.size ≤ b ∧ b < w1.heap.size) w1 gb S0 → LiveCPost w1 (.returned (.map (some w1.heap.size))) w2 → NewPost w cap (.returned (.tuple #[.pointer (some ⟨w2.heap.size, 0, none⟩), .int .i64 0])) (w2.alloc (.cells #[.int .i64 (cap : Nat), .slice none 0 0, .pointer (some ⟨gb, 0, none⟩), .map (some w1.heap.size)] 77)) := fun w1 w2 gb a b c d => new_post h1 h3 a b c d rfl
  have HF : Hid _ := hfin
  have n1 : ¬ (cap : Int) < 1 := by omega
  have n3 : ¬ (300 : Int) < (cap : Int) := by omega
  clear hfin
  go_enter Tryz.func18, Tryz.ntmps18
  go_wp2_with (first
    | (go_at_call 50; refine hg.mono ?_; clear hg; rintro e w1 ⟨gb, rfl, hgb, hb1, hG⟩)
    | (go_at_call 51; refine (hlc _).mono ?_; clear hlc; rintro e w2 hp; have hv := hp.1; subst hv))
  go_ret2
  exact HF.out _ _ _ hgb hb1 hG hp

end Go.Proofs.YtebfmcafmojlaaaGreatDoor

