/-
  append to a slice that is full where it lies (or is the call's own), of a row that is read.
-/
import Derived.ArgAppend
import Derived.Test.YtebfmcafmojlaaaT04
import Derived.Test.YtebfmcafmojlaaaT01
import Derived.Test.YtebfmcafmojlaaaT03
namespace Go.Proofs.Ytebfmcafmojlaaa
open Go.RowKit
set_option linter.unusedSimpArgs false
set_option linter.unusedVariables false

/-- A slice that is full where it lies, or a row of blocks from B on. -/
def Full (B b : Nat) (w : World) (e : TypeId) (v : Value) (xs : List Value) : Prop :=
  (∃ off, v = .slice (some ⟨b, off, none⟩) xs.length xs.length ∧ b < B ∧ ∀ i, i < xs.length → w.cell? ⟨b, off + i, none⟩ = some (xs.getD i undef)) ∨ w.ownsRow B e 1 v xs.length xs

theorem run_append_zero {P : Program} (w : World) (t ty e : TypeId) (i : TypeInfo) (ht : P.underlying t = some (.slice e)) (hi : P.info? e = some i) (base : Option Addr) (n : Nat) (a : Option Addr) (c : Nat) :
    (Builtin.append_ #[t, t] ty #[.slice base n n, .slice a 0 c]).run P w = .ok (.slice base n n) w := by
  cases base <;> cases a <;> simp [Builtin.append_, run_underlying ht, sizeOf, typeInfo, hi, Builtin.lenOf, Builtin.firstCells, loadCells, loadCellsFrom, storeCells, Result.andThen]

theorem run_append_full {P : Program} (w : World) (B b B' : Nat) (t ty e : TypeId) (i : TypeInfo) (z : Value) (bytes : Nat) (ht : P.underlying t = some (.slice e)) (hi : P.info? e = some i) (hz : i.zero = some z)
    (hsize : i.size = 1) (hby : i.bytes = bytes) (hzs : z.cells.size = 1)
    (v : Value) (xs : List Value) (hf : Full B b w e v xs) (x : Value) (ys : List Value) (hr : Reads B' w x ys) (h1 : ∀ u ∈ ys, u.oneCell' = true)
    (h63 : xs.length + ys.length ≤ maxLen) (hbytes : (xs.length + ys.length) * bytes ≤ 140737488355328) (hB : B ≤ w.heap.size) :
    ∃ v' w', (Builtin.append_ #[t, t] ty #[v, x]).run P w = .ok v' w' ∧ Full B b w' e v' (xs ++ ys) ∧ Below B w w' := by
  rcases hf with ⟨off, rfl, hb, hc⟩ | hown
  · rcases hr with ⟨rfl, rfl⟩ | ⟨b', off', cap', rfl, hb', hc'⟩
    · refine ⟨_, _, run_append_zero w t ty e i ht hi _ _ _ _, .inl ⟨off, by simp, hb, by simpa using hc⟩, Below.refl _ _⟩
    · by_cases h0 : ys = []
      · subst h0
        refine ⟨_, _, run_append_zero w t ty e i ht hi _ _ _ _, .inl ⟨off, by simp, hb, by simpa using hc⟩, Below.refl _ _⟩
      · have hlen : 0 < ys.length := List.length_pos_iff.2 h0
        obtain ⟨v', w', hr, ho, hg⟩ := run_append_arg_grows (P := P) (w := w) t ty e i z 1 bytes ht hi hz hsize hby hzs (by decide) ⟨b, off, none⟩ xs.length xs.length xs (by simp) (by
          intro j u hj
          have hjl : j < xs.length := (List.getElem?_eq_some_iff.1 hj).1
          have := hc j hjl
          rw [List.getD_eq_getElem?_getD, hj] at this
          simpa [Addr.add_lit] using this) ⟨b', off', none⟩ ys.length cap' ys (by simp) (by
          intro j u hj
          have hjl : j < ys.length := (List.getElem?_eq_some_iff.1 hj).1
          have := hc' j hjl
          rw [List.getD_eq_getElem?_getD, hj] at this
          simpa [Addr.add_lit] using this) (by omega) h63 hbytes
        refine ⟨v', w', hr, .inr ?_, (grown_nil hg).mono hB⟩
        rw [List.length_append]
        exact ownsRow_base ho hB
  · rcases hr with ⟨rfl, rfl⟩ | ⟨b', off', cap', rfl, hb', hc'⟩
    · refine ⟨v, w, run_append_owned_none (P := P) (w := w) B t ty e i 1 ht hi v _ _ hown, .inr (by simpa using hown), Below.refl _ _⟩
    · obtain ⟨v', w', hr, ho, hg, hz'⟩ := run_append_own (P := P) w B t ty e i z 1 bytes ht hi hz hsize hby hzs (by decide) v xs.length xs hown ⟨b', off', none⟩ ys.length cap' ys (by simp) (by
          intro j u hj
          have hjl : j < ys.length := (List.getElem?_eq_some_iff.1 hj).1
          have := hc' j hjl
          rw [List.getD_eq_getElem?_getD, hj] at this
          simpa [Addr.add_lit] using this) h1 h63 hbytes hB
      refine ⟨v', w', hr, .inr ?_, (Below.refl B w).grown hg hB (fun k hk => (hown.lt k hk).1)⟩
      rw [List.length_append]
      exact ho

theorem wpList_append_full {P : Program} {w : World} {ops : Array Oper} {rest : List Oper} {o : Oper} {a : Act} {Q : Exit → Act → World → Prop} (hgd : o.guard = none) (s x : Operand) (t : TypeId)
    (ho : o.op = .call { callee := .builtin .append, args := #[s, x], argTypes := #[t, t] })
    (B b B' : Nat) (e : TypeId) (i : TypeInfo) (z : Value) (bytes : Nat) (ht : P.underlying t = some (.slice e)) (hi : P.info? e = some i) (hz : i.zero = some z)
    (hsize : i.size = 1) (hby : i.bytes = bytes) (hzs : z.cells.size = 1)
    (v : Value) (xs : List Value) (hs : a.eval s = v) (hf : Full B b w e v xs) (xv : Value) (ys : List Value) (hx : a.eval x = xv) (hr : Reads B' w xv ys) (h1 : ∀ u ∈ ys, u.oneCell' = true)
    (h63 : xs.length + ys.length ≤ maxLen) (hbytes : (xs.length + ys.length) * bytes ≤ 140737488355328) (hB : B ≤ w.heap.size)
    (h : ∀ v' w', Full B b w' e v' (xs ++ ys) → Below B w w' → wpList P ops Q rest (a.put o.dst v') w') : wpList P ops Q (o :: rest) a w := by
  refine wpList_plain hgd fun K hK => ?_
  obtain ⟨v', w', hrun, h2, h3⟩ := run_append_full (P := P) w B b B' t o.type e i z bytes ht hi hz hsize hby hzs v xs hf xv ys hr h1 h63 hbytes hB
  unfold Oper.wp execOp
  simp only [ho, resolve, invoke, builtin, Sem.run_bind, Sem.run_pure, Result.andThen_ok, List.map_toArray, List.map_cons, List.map_nil, hs, hx, hrun]
  exact hK _ _ (h v' w' h2 h3)

theorem Full.reads {B b : Nat} {w : World} {e : TypeId} {v : Value} {xs : List Value} (h : Full B b w e v xs) (hB : B ≤ w.heap.size) : Reads w.heap.size w v xs := by
  rcases h with ⟨off, rfl, hb, hc⟩ | hown
  · exact .inr ⟨b, off, _, rfl, Nat.lt_of_lt_of_le hb hB, hc⟩
  · exact reads_of_owns hown

theorem Full.block {B b : Nat} {w : World} {e : TypeId} {v : Value} {xs : List Value} (h : Full B b w e v xs) : ∀ ad n c, v = .slice (some ad) n c → ad.block = b ∨ B ≤ ad.block := by
  intro ad n c hv
  rcases h with ⟨off, rfl, hb, hc⟩ | hown
  · cases hv
    exact .inl rfl
  · right
    rcases hown.2 with ⟨rfl, _⟩ | ⟨g, cap, cur, rfl, hg, _⟩
    · cases hv
    · cases hv
      exact hg

theorem Full.drew {B b : Nat} {w : World} {e : TypeId} {v : Value} {xs : List Value} (h : Full B b w e v xs) : ∃ ao n c, v = .slice ao n c := by
  rcases h with ⟨off, rfl, hb, hc⟩ | hown
  · exact ⟨_, _, _, rfl⟩
  · obtain ⟨ao, c, rfl⟩ := owns_form hown
    exact ⟨_, _, _, rfl⟩

end Go.Proofs.Ytebfmcafmojlaaa

/-
  A copse as its callers see it: its cap, its names, the order, and the functions of its live handles; how a call answers.
-/
namespace Go.Proofs.Ytebfmcafmojlaaa
open Go.RowKit
set_option linter.unusedSimpArgs false
set_option linter.unusedVariables false

def addT (l : List Tab) (f : Tab) : List Tab := if f ∈ l then l else l ++ [f]
def withT (live fs : List Tab) : List Tab := fs.foldl addT live

theorem addT_len (l : List Tab) (f : Tab) : (addT l f).length ≤ l.length + 1 := by unfold addT; split <;> simp
theorem withT_len (l fs : List Tab) : (withT l fs).length ≤ l.length + fs.length := by
  unfold withT
  induction fs generalizing l with
  | nil => simp
  | cons f fs ih =>
    have := ih (addT l f)
    have := addT_len l f
    simp only [List.foldl_cons, List.length_cons]
    omega
theorem withT_one (L : List Tab) (t f : Tab) : f ∈ withT L [t] ↔ f ∈ L ∨ f = t := by
  simp only [withT, List.foldl_cons, List.foldl_nil, addT]
  split
  · rename_i h
    constructor
    · exact .inl
    · rintro (h1 | h1)
      · exact h1
      · rw [h1]; exact h
  · simp

theorem withT_one_len (L : List Tab) (t : Tab) : (withT L [t]).length ≤ L.length + 1 := by
  have := withT_len L [t]
  simpa using this

def namedI (names : List ByteArray) (name : ByteArray) : Int := match names.findIdx? (fun x => x.toList == name.toList) with | some i => (i : Int) | none => -1
def nameCh (i : Nat) (c : Nat) : Bool := (decide (97 ≤ c) && decide (c ≤ 122)) || (decide (i ≠ 0) && decide (48 ≤ c) && decide (c ≤ 57))
def byteN (s : ByteArray) (i : Nat) : Nat := (s.data.toList.getD i 0).toNat
def isNameB (s : ByteArray) : Bool := decide (1 ≤ s.size) && decide (s.size ≤ 8) && (List.range s.size).all (fun i => nameCh i (byteN s i))
def evalR (n : Nat) (f : Tab) (a : Int) : Bool × Int := if a < 0 ∨ 2 ^ n ≤ a then (false, 1) else (f.getLsbD a.toNat, 0)
def zv (n : Int) : Value := .int .i64 n
def i64ok (n : Int) : Prop := -9223372036854775808 ≤ n ∧ n ≤ 9223372036854775807

theorem named_hit (l : List ByteArray) (f : ByteArray) (k : Nat) (h : k < l.length) (hn : ∀ j, j < k → ((l.getD j ByteArray.empty).toList == f.toList) = false) (he : ((l.getD k ByteArray.empty).toList == f.toList) = true) : namedI l f = k := by
  have : l.findIdx? (fun x => x.toList == f.toList) = some k := by
    rw [List.findIdx?_eq_some_iff_getElem]
    refine ⟨h, ?_, ?_⟩
    · rw [List.getD_eq_getElem?_getD, List.getElem?_eq_getElem h] at he; exact he
    · intro j hj
      have := hn j hj
      rw [List.getD_eq_getElem?_getD, List.getElem?_eq_getElem (by omega)] at this
      simpa using this
  simp only [namedI, this]

theorem named_miss (l : List ByteArray) (f : ByteArray) (h : ∀ j, j < l.length → ((l.getD j ByteArray.empty).toList == f.toList) = false) : namedI l f = -1 := by
  have : l.findIdx? (fun x => x.toList == f.toList) = none := by
    rw [List.findIdx?_eq_none_iff]
    intro x hx
    obtain ⟨j, hj, rfl⟩ := List.mem_iff_getElem.1 hx
    have := h j hj
    rw [List.getD_eq_getElem?_getD, List.getElem?_eq_getElem hj] at this
    simpa using this
  simp only [namedI, this]

theorem byteN_get (s : ByteArray) (i : Nat) (h : i < s.size) : (s[i]'h).toNat = byteN s i := by
  unfold byteN
  rw [List.getD_eq_getElem?_getD, List.getElem?_eq_getElem (by simpa using h)]
  rfl

theorem isName_short (s : ByteArray) (h : s.size < 1 ∨ 8 < s.size) : isNameB s = false := by
  unfold isNameB
  rcases h with h | h
  · have : decide (1 ≤ s.size) = false := decide_eq_false (by omega)
    rw [this]; rfl
  · have : decide (s.size ≤ 8) = false := decide_eq_false (by omega)
    rw [this]; simp

theorem isName_all (s : ByteArray) (h1 : 1 ≤ s.size) (h8 : s.size ≤ 8) (h : ∀ j, j < s.size → nameCh j (byteN s j) = true) : isNameB s = true := by
  unfold isNameB
  simp only [h1, h8, decide_true, Bool.true_and, List.all_eq_true, List.mem_range]
  exact h

theorem isName_not (s : ByteArray) (k : Nat) (hk : k < s.size) (h : nameCh k (byteN s k) = false) : isNameB s = false := by
  unfold isNameB
  have : (List.range s.size).all (fun i => nameCh i (byteN s i)) = false := by
    rw [List.all_eq_false]
    exact ⟨k, List.mem_range.2 hk, by simp [h]⟩
  rw [this]; simp

theorem nameCh_letter (k c : Nat) (h1 : 97 ≤ c) (h2 : c ≤ 122) : nameCh k c = true := by simp [nameCh, h1, h2]
theorem nameCh_digit (k c : Nat) (h0 : k ≠ 0) (h1 : 48 ≤ c) (h2 : c ≤ 57) : nameCh k c = true := by simp [nameCh, h0, h1, h2]
theorem nameCh_no (k c : Nat) (h : ¬ (97 ≤ c ∧ c ≤ 122)) (h' : ¬ (k ≠ 0 ∧ 48 ≤ c ∧ c ≤ 57)) : nameCh k c = false := by
  rw [Bool.eq_false_iff]
  intro hh
  simp [nameCh] at hh
  omega

structure CopS where
  cap : Int
  names : List ByteArray
  order : List Nat
  T : Nat → Option Tab

def updT (T : Nat → Option Tab) (h : Nat) (t : Tab) : Nat → Option Tab := fun k => if k = h then some t else T k

/-- L lists the functions of the live handles (but, perhaps, for the constants). -/
def Lists (C : CopS) (L : List Tab) : Prop := ∀ f, (∃ h, C.T h = some f) ↔ (f ∈ L ∨ f = 0 ∨ f = onesT)

def CopStep (I : (Nat → Prop) → World → Nat → CopS → Prop) (O : Nat → Prop) (w : World) (x : Nat) (w' : World) (C' : CopS) : Prop := Only O w w' ∧ ∃ O', I O' w' x C' ∧ Grows w O O'

def handleMax : Nat := 4611686018427387904

/-- A call that answers a handle of the function t, or refuses it. -/
def PostTell (I : (Nat → Prop) → World → Nat → CopS → Prop) (O : Nat → Prop) (w : World) (x : Nat) (C : CopS) (full : Prop) (C' : Nat → CopS) (t : Tab) (e : Ending) (w' : World) : Prop :=
  (full ∧ e = .returned (.tuple #[.int .i64 0, .int .i64 5]) ∧ CopStep I O w x w' C) ∨
  (¬ full ∧ ∃ h : Nat, h < handleMax ∧ (∀ f, C.T h = some f → f = t) ∧ e = .returned (.tuple #[.int .i64 h, .int .i64 0]) ∧ CopStep I O w x w' (C' h))

def fullC (C : CopS) (L : List Tab) (t : Tab) : Prop := C.cap < ((allT C.order (withT L [t])).length : Int)
def toldC (C : CopS) (t : Tab) (h : Nat) : CopS := { C with T := updT C.T h t }

def fullV (C : CopS) (L : List Tab) : Prop := C.cap < ((allT (C.order ++ [C.names.length]) (withT L [mask C.names.length])).length : Int)
def varC (C : CopS) (name : ByteArray) (h : Nat) : CopS := { C with names := C.names ++ [name], order := C.order ++ [C.names.length], T := updT C.T h (mask C.names.length) }

def T0 (cF cT : Nat) : Nat → Option Tab := fun h => if h = cF then some 0 else if h = cT then some onesT else none


end Go.Proofs.Ytebfmcafmojlaaa

/-
  GRAPHS THAT SHARE, WITH TURNED EDGES: plain mathematics. A reference is twice a node's number, and one more if it is turned.
-/
namespace Go.Proofs.Ytebfmcafmojlaaa
set_option linter.unusedSimpArgs false
set_option linter.unusedVariables false

structure Nd where
  v : Nat
  t : Nat
  e : Nat

/-- A graph: the order, the nodes by number, and (beside it) what each tells. -/
structure Gr where
  order : List Nat
  node : Nat → Option Nd
  sem : Nat → Tab

def Gr.ok (G : Gr) (r : Nat) : Prop := r / 2 = 0 ∨ ∃ n, G.node (r / 2) = some n
def Gr.tab (G : Gr) (r : Nat) : Tab := if r % 2 = 0 then G.sem (r / 2) else ~~~ G.sem (r / 2)
def Gr.idx (G : Gr) (v : Nat) : Nat := G.order.idxOf v
def Gr.lev (G : Gr) (r : Nat) : Nat := match G.node (r / 2) with | some n => G.idx n.v | none => G.order.length

/-- f, or its opposite if b is turned. -/
def tl (f b : Nat) : Nat := if b % 2 = 0 then f else if f % 2 = 0 then f + 1 else f - 1

theorem tl_half (f b : Nat) : tl f b / 2 = f / 2 := by unfold tl; split; rfl; split <;> omega
theorem tl_even (f b : Nat) (h : b % 2 = 0) : tl f b = f := by unfold tl; rw [if_pos h]
theorem tl_par (f b : Nat) : tl f b % 2 = (f + b) % 2 := by unfold tl; split; omega; split <;> omega
theorem tl_tl (f b : Nat) : tl (tl f b) b = f := by unfold tl; split; rfl; split <;> split <;> omega
theorem tl_inj {f g b : Nat} (h : tl f b = tl g b) : f = g := by rw [← tl_tl f b, h, tl_tl]

structure Gr.Ok (G : Gr) : Prop where
  nodup : G.order.Nodup
  lt6 : ∀ v ∈ G.order, v < 6
  zero : G.node 0 = none
  sem0 : G.sem 0 = onesT
  var : ∀ {i n}, G.node i = some n → n.v ∈ G.order
  tev : ∀ {i n}, G.node i = some n → n.t % 2 = 0
  tok : ∀ {i n}, G.node i = some n → G.ok n.t
  eok : ∀ {i n}, G.node i = some n → G.ok n.e
  tlev : ∀ {i n}, G.node i = some n → G.idx n.v < G.lev n.t
  elev : ∀ {i n}, G.node i = some n → G.idx n.v < G.lev n.e
  ne : ∀ {i n}, G.node i = some n → n.t ≠ n.e
  is : ∀ {i n}, G.node i = some n → G.sem i = iteT (mask n.v) (G.tab n.t) (G.tab n.e)
  inj : ∀ {i j n}, G.node i = some n → G.node j = some n → i = j

theorem Gr.ok_tl {G : Gr} {f b : Nat} : G.ok (tl f b) ↔ G.ok f := by unfold Gr.ok; rw [tl_half]
theorem Gr.lev_tl {G : Gr} (f b : Nat) : G.lev (tl f b) = G.lev f := by unfold Gr.lev; rw [tl_half]

theorem not_not_tab (f : Tab) : ~~~ (~~~ f) = f := by simp
theorem not_inj_tab {f g : Tab} (h : ~~~ f = ~~~ g) : f = g := by rw [← not_not_tab f, h, not_not_tab]

theorem Gr.tab_tl (G : Gr) (f b : Nat) : G.tab (tl f b) = if b % 2 = 0 then G.tab f else ~~~ G.tab f := by
  have hh := tl_half f b
  have hp := tl_par f b
  unfold Gr.tab
  rw [hh, hp]
  rcases Nat.mod_two_eq_zero_or_one f with h1 | h1 <;> rcases Nat.mod_two_eq_zero_or_one b with h2 | h2
  · have h3 : (f + b) % 2 = 0 := by omega
    simp [h1, h2, h3]
  · have h3 : (f + b) % 2 = 1 := by omega
    simp [h1, h2, h3]
  · have h3 : (f + b) % 2 = 1 := by omega
    simp [h1, h2, h3]
  · have h3 : (f + b) % 2 = 0 := by omega
    simp [h1, h2, h3]

theorem Gr.lev_node {G : Gr} {r : Nat} {n : Nd} (h : G.node (r / 2) = some n) : G.lev r = G.idx n.v := by unfold Gr.lev; rw [h]
theorem Gr.lev_const {G : Gr} (k : G.Ok) {r : Nat} (h : r / 2 = 0) : G.lev r = G.order.length := by unfold Gr.lev; rw [h, k.zero]

theorem Gr.Ok.idx_lt {G : Gr} (k : G.Ok) {i : Nat} {n : Nd} (h : G.node i = some n) : G.idx n.v < G.order.length := List.idxOf_lt_length_of_mem (k.var h)
theorem Gr.Ok.v6 {G : Gr} (k : G.Ok) {i : Nat} {n : Nd} (h : G.node i = some n) : n.v < 6 := k.lt6 _ (k.var h)
theorem Gr.lev_le {G : Gr} (k : G.Ok) (r : Nat) : G.lev r ≤ G.order.length := by
  unfold Gr.lev
  split
  · rename_i n h; exact Nat.le_of_lt (k.idx_lt h)
  · exact Nat.le_refl _
theorem Gr.Ok.pos {G : Gr} (k : G.Ok) {i : Nat} {n : Nd} (h : G.node i = some n) : 0 < i := by
  rcases Nat.eq_zero_or_pos i with e | e
  · subst e; rw [k.zero] at h; cases h
  · exact e
theorem Gr.ok_node {G : Gr} {r : Nat} (h : G.ok r) (h0 : r / 2 ≠ 0) : ∃ n, G.node (r / 2) = some n := h.resolve_left h0
theorem Gr.lev_ne {G : Gr} (k : G.Ok) {r : Nat} (h : G.ok r) (hl : G.lev r < G.order.length) : ∃ n, G.node (r / 2) = some n := by
  rcases h with h | h
  · rw [Gr.lev_const k h] at hl; omega
  · exact h

theorem mask63 (v : Nat) (h : v < 6) : (mask v).getLsbD 63 = true := by
  have := mask_bit v 63 h (by omega)
  rw [this]
  have : ∀ v : Fin 6, (63 : Nat).testBit v.1 = true := by decide
  exact this ⟨v, h⟩

/-- Which of a node and its opposite: the one that is true when all variables are. -/
theorem Gr.Ok.bit63 {G : Gr} (k : G.Ok) : ∀ (d : Nat) (r : Nat), G.ok r → G.order.length - G.lev r ≤ d → (G.sem (r / 2)).getLsbD 63 = true := by
  intro d
  induction d with
  | zero =>
    intro r hr hd
    rcases hr with h | ⟨n, h⟩
    · rw [h, k.sem0]; exact onesT_bit 63 (by omega)
    · have := k.idx_lt h
      rw [Gr.lev_node h] at hd
      omega
  | succ d ih =>
    intro r hr hd
    rcases hr with h | ⟨n, h⟩
    · rw [h, k.sem0]; exact onesT_bit 63 (by omega)
    · rw [k.is h, iteT_bit _ _ _ _ (by omega), mask63 _ (k.v6 h), if_pos rfl]
      have := k.tlev h
      have := k.idx_lt h
      rw [Gr.lev_node h] at hd
      have h3 := ih n.t (k.tok h) (by omega)
      unfold Gr.tab
      rw [if_pos (k.tev h)]
      exact h3

theorem Gr.Ok.bit {G : Gr} (k : G.Ok) {r : Nat} (h : G.ok r) : (G.tab r).getLsbD 63 = decide (r % 2 = 0) := by
  have := k.bit63 _ r h (Nat.le_refl _)
  unfold Gr.tab
  split
  · rename_i e; rw [this]; simp [e]
  · rename_i e; rw [BitVec.getLsbD_not, this]; simp [e]

theorem Gr.Ok.written {G : Gr} (k : G.Ok) {r : Nat} (h : G.ok r) : writtenT (G.tab r) = G.sem (r / 2) := by
  unfold writtenT
  rw [k.bit h]
  unfold Gr.tab
  rcases Nat.mod_two_eq_zero_or_one r with e | e
  · simp [e]
  · simp [e]

theorem hangs_iteT (v u : Nat) (g h : Tab) (hv : v < 6) (hu : u < 6) (hne : u ≠ v) (hg : hangs g u = false) (hh : hangs h u = false) : hangs (iteT (mask v) g h) u = false := by
  rw [hangs_false_iff] at hg hh ⊢
  rw [given_iteT _ _ _ _ _ hu, given_iteT _ _ _ _ _ hu, given_mask_ne _ _ _ hv hu hne, given_mask_ne _ _ _ hv hu hne, hg, hh]

theorem hangs_ones (v : Nat) (h : v < 6) : hangs onesT v = false := by
  have : ∀ v : Fin 6, hangs onesT v.1 = false := by decide
  exact this ⟨v, h⟩

theorem Gr.hangs_tab {G : Gr} (r v : Nat) (h : v < 6) : hangs (G.tab r) v = hangs (G.sem (r / 2)) v := by
  unfold Gr.tab; split; rfl; exact hangs_not _ _ h

/-- It hangs on no variable ahead of its level (and on none that is not in the order). -/
theorem Gr.Ok.free {G : Gr} (k : G.Ok) : ∀ (d : Nat) (r v : Nat), G.ok r → G.order.length - G.lev r ≤ d → v < 6 → (G.idx v < G.lev r ∨ v ∉ G.order) → hangs (G.tab r) v = false := by
  intro d
  induction d with
  | zero =>
    intro r v hr hd hv hl
    rw [Gr.hangs_tab _ _ hv]
    rcases hr with h | ⟨n, h⟩
    · rw [h, k.sem0]; exact hangs_ones v hv
    · have := k.idx_lt h
      rw [Gr.lev_node h] at hd
      omega
  | succ d ih =>
    intro r v hr hd hv hl
    rw [Gr.hangs_tab _ _ hv]
    rcases hr with h | ⟨n, h⟩
    · rw [h, k.sem0]; exact hangs_ones v hv
    · rw [k.is h]
      have h1 := k.tlev h
      have h2 := k.elev h
      have h3 := k.idx_lt h
      rw [Gr.lev_node h] at hd hl
      have hne : v ≠ n.v := by
        intro e
        rcases hl with hl | hl
        · rw [e] at hl; omega
        · exact hl (e ▸ k.var h)
      refine hangs_iteT _ _ _ _ (k.v6 h) hv hne (ih n.t v (k.tok h) (by omega) hv ?_) (ih n.e v (k.eok h) (by omega) hv ?_)
      · exact hl.imp (fun e => by omega) id
      · exact hl.imp (fun e => by omega) id

theorem Gr.Ok.ahead {G : Gr} (k : G.Ok) {r v : Nat} (hr : G.ok r) (hv : v < 6) (h : G.idx v < G.lev r ∨ v ∉ G.order) : hangs (G.tab r) v = false := k.free _ r v hr (Nat.le_refl _) hv h

theorem Gr.Ok.tfree {G : Gr} (k : G.Ok) {i : Nat} {n : Nd} (h : G.node i = some n) : hangs (G.tab n.t) n.v = false := k.ahead (k.tok h) (k.v6 h) (.inl (k.tlev h))
theorem Gr.Ok.efree {G : Gr} (k : G.Ok) {i : Nat} {n : Nd} (h : G.node i = some n) : hangs (G.tab n.e) n.v = false := k.ahead (k.eok h) (k.v6 h) (.inl (k.elev h))

theorem Gr.Ok.given_node {G : Gr} (k : G.Ok) {i : Nat} {n : Nd} (h : G.node i = some n) (b : Bool) : given (G.sem i) n.v b = if b then G.tab n.t else G.tab n.e := by
  rw [k.is h, given_join _ _ _ _ (k.v6 h) (k.tfree h) (k.efree h)]

theorem idxOf_inj {l : List Nat} {a b : Nat} (ha : a ∈ l) (h : l.idxOf a = l.idxOf b) : a = b := by
  have hb : l.idxOf b < l.length := h ▸ List.idxOf_lt_length_of_mem ha
  have h1 := List.getElem_idxOf (List.idxOf_lt_length_of_mem ha)
  have h2 := List.getElem_idxOf hb
  rw [← h1, ← h2]
  simp [h]

/-- Two references are the same just if their functions are. -/
theorem Gr.Ok.canon {G : Gr} (k : G.Ok) : ∀ (d : Nat) (r s : Nat), G.ok r → G.ok s → G.order.length - G.lev r ≤ d → G.order.length - G.lev s ≤ d → G.tab r = G.tab s → r = s := by
  intro d
  induction d with
  | zero =>
    intro r s hr hs h1 h2 he
    have hb := congrArg (fun f => f.getLsbD 63) he
    simp only [k.bit hr, k.bit hs] at hb
    have hp : r % 2 = 0 ↔ s % 2 = 0 := by simpa using hb
    have hr0 : r / 2 = 0 := by
      rcases hr with h | ⟨n, h⟩
      · exact h
      · have := k.idx_lt h; rw [Gr.lev_node h] at h1; omega
    have hs0 : s / 2 = 0 := by
      rcases hs with h | ⟨n, h⟩
      · exact h
      · have := k.idx_lt h; rw [Gr.lev_node h] at h2; omega
    omega
  | succ d ih =>
    intro r s hr hs h1 h2 he
    have hb := congrArg (fun f => f.getLsbD 63) he
    simp only [k.bit hr, k.bit hs] at hb
    have hp : r % 2 = 0 ↔ s % 2 = 0 := by simpa using hb
    have hsem : G.sem (r / 2) = G.sem (s / 2) := by
      unfold Gr.tab at he
      by_cases e : r % 2 = 0
      · rw [if_pos e, if_pos (hp.1 e)] at he; exact he
      · rw [if_neg e, if_neg (fun e' => e (hp.2 e'))] at he; exact not_inj_tab he
    have hhang : ∀ {i n}, G.node i = some n → G.order.length - G.idx n.v ≤ d + 1 → hangs (G.sem i) n.v = true := by
      intro i n h hd
      rw [hangs_true_iff, k.given_node h true, k.given_node h false]
      intro e
      have := k.tlev h; have := k.elev h; have := k.idx_lt h
      exact k.ne h (ih n.t n.e (k.tok h) (k.eok h) (by omega) (by omega) (by simpa using e))
    have hdiv : r / 2 = s / 2 := by
      rcases hr with h | ⟨n, h⟩
      · rcases hs with h' | ⟨n', h'⟩
        · omega
        · exfalso
          rw [Gr.lev_node h'] at h2
          have := hhang h' h2
          rw [← hsem, h, k.sem0, hangs_ones _ (k.v6 h')] at this
          cases this
      · rcases hs with h' | ⟨n', h'⟩
        · exfalso
          rw [Gr.lev_node h] at h1
          have := hhang h h1
          rw [hsem, h', k.sem0, hangs_ones _ (k.v6 h)] at this
          cases this
        · rw [Gr.lev_node h] at h1
          rw [Gr.lev_node h'] at h2
          have a1 := hhang h h1
          have a2 := hhang h' h2
          have hv : n.v = n'.v := by
            apply idxOf_inj (k.var h)
            rcases Nat.lt_trichotomy (G.idx n.v) (G.idx n'.v) with hl | hl | hl
            · exfalso
              have := k.ahead (r := s) (v := n.v) (.inr ⟨n', h'⟩) (k.v6 h) (.inl (by rw [Gr.lev_node h']; exact hl))
              rw [Gr.hangs_tab _ _ (k.v6 h), ← hsem, a1] at this
              cases this
            · exact hl
            · exfalso
              have := k.ahead (r := r) (v := n'.v) (.inr ⟨n, h⟩) (k.v6 h') (.inl (by rw [Gr.lev_node h]; exact hl))
              rw [Gr.hangs_tab _ _ (k.v6 h'), hsem, a2] at this
              cases this
          have ht : G.tab n.t = G.tab n'.t := by
            have e1 := k.given_node h true
            have e2 := k.given_node h' true
            rw [hsem, hv] at e1
            rw [e1] at e2
            simpa using e2
          have hee : G.tab n.e = G.tab n'.e := by
            have e1 := k.given_node h false
            have e2 := k.given_node h' false
            rw [hsem, hv] at e1
            rw [e1] at e2
            simpa using e2
          have := k.tlev h; have := k.elev h; have := k.idx_lt h
          have := k.tlev h'; have := k.elev h'; have := k.idx_lt h'
          have q1 := ih n.t n'.t (k.tok h) (k.tok h') (by omega) (by omega) ht
          have q2 := ih n.e n'.e (k.eok h) (k.eok h') (by omega) (by omega) hee
          have : n = n' := by cases n; cases n'; simp_all
          subst this
          exact k.inj h h'
    omega

theorem Gr.Ok.same {G : Gr} (k : G.Ok) {r s : Nat} (hr : G.ok r) (hs : G.ok s) (h : G.tab r = G.tab s) : r = s :=
  k.canon G.order.length r s hr hs (Nat.sub_le _ _) (Nat.sub_le _ _) h

theorem Gr.Ok.hangs_top {G : Gr} (k : G.Ok) {i : Nat} {n : Nd} (h : G.node i = some n) : hangs (G.sem i) n.v = true := by
  rw [hangs_true_iff, k.given_node h true, k.given_node h false]
  intro e
  exact k.ne h (k.same (k.tok h) (k.eok h) (by simpa using e))

theorem Gr.Ok.sem_inj {G : Gr} (k : G.Ok) {i j : Nat} (hi : ∃ n, G.node i = some n) (hj : ∃ n, G.node j = some n) (h : G.sem i = G.sem j) : i = j := by
  have := k.same (r := 2 * i) (s := 2 * j) (.inr (by simpa using hi)) (.inr (by simpa using hj)) (by unfold Gr.tab; simpa using h)
  omega

end Go.Proofs.Ytebfmcafmojlaaa

/-
  The nodes of some references, by numbers, against the tables that come out.
-/
namespace Go.Proofs.Ytebfmcafmojlaaa
set_option linter.unusedSimpArgs false
set_option linter.unusedVariables false

def Gr.dfs (G : Gr) : Nat → List Nat → Nat → List Nat
  | 0, l, _ => l
  | n + 1, l, r =>
    if r / 2 ∈ l then l else
    match G.node (r / 2) with
    | none => l
    | some nd => G.dfs n (G.dfs n l nd.t) nd.e ++ [r / 2]

def Gr.has (G : Gr) (i : Nat) : Prop := ∃ n, G.node i = some n

theorem Gr.Ok.top_node {G : Gr} (k : G.Ok) {i : Nat} {n : Nd} (h : G.node i = some n) : topO G.order (G.sem i) = some n.v := by
  unfold topO
  rw [List.find?_eq_some_iff_getElem]
  refine ⟨k.hangs_top h, G.idx n.v, k.idx_lt h, List.getElem_idxOf (k.idx_lt h), ?_⟩
  intro j hj
  have hjl : j < G.order.length := Nat.lt_trans hj (k.idx_lt h)
  have hm : G.order[j] ∈ G.order := List.getElem_mem hjl
  have hi : G.idx G.order[j] = j := List.Nodup.idxOf_getElem k.nodup j hjl
  have := k.ahead (r := 2 * i) (v := G.order[j]) (.inr (by simpa using ⟨n, h⟩)) (k.lt6 _ hm) (.inl (by rw [hi, Gr.lev_node (n := n) (by simpa using h)]; exact hj))
  rw [Gr.hangs_tab _ _ (k.lt6 _ hm)] at this
  simpa using this

theorem Gr.Ok.top_const {G : Gr} (k : G.Ok) : topO G.order (G.sem 0) = none := by
  unfold topO
  rw [List.find?_eq_none]
  intro v hv
  rw [k.sem0, hangs_ones v (k.lt6 v hv)]
  simp

/-- The tables that come out are those of the nodes, one by one. -/
theorem Gr.Ok.nodes_dfs {G : Gr} (k : G.Ok) : ∀ (n : Nat) (l : List Nat) (r : Nat), (∀ i ∈ l, G.has i) → G.ok r →
    nodesT G.order n (l.map G.sem) (G.tab r) = (G.dfs n l r).map G.sem ∧ ∀ i ∈ G.dfs n l r, G.has i := by
  intro n
  induction n with
  | zero => intro l r hl _; exact ⟨rfl, hl⟩
  | succ n ih =>
    intro l r hl hr
    unfold nodesT Gr.dfs
    rw [k.written hr]
    rcases hr with h | ⟨nd, h⟩
    · rw [h, k.top_const, k.zero]
      have hn0 : 0 ∉ l := by intro e; obtain ⟨n, hn⟩ := hl 0 e; rw [k.zero] at hn; cases hn
      simp only [hn0, if_false]
      refine ⟨?_, hl⟩
      split <;> rfl
    · rw [h, k.top_node h]
      have hm : G.sem (r / 2) ∈ l.map G.sem ↔ r / 2 ∈ l := by
        constructor
        · intro e
          obtain ⟨j, hj, e⟩ := List.mem_map.1 e
          rw [k.sem_inj ⟨nd, h⟩ (hl j hj) e.symm]
          exact hj
        · intro e; exact List.mem_map.2 ⟨_, e, rfl⟩
      by_cases hin : r / 2 ∈ l
      · rw [if_pos (hm.2 hin), if_pos hin]
        exact ⟨rfl, hl⟩
      · rw [if_neg (fun e => hin (hm.1 e)), if_neg hin]
        simp only
        rw [k.given_node h true, k.given_node h false]
        simp only [if_true]
        obtain ⟨e1, h1⟩ := ih l nd.t hl (k.tok h)
        obtain ⟨e2, h2⟩ := ih (G.dfs n l nd.t) nd.e h1 (k.eok h)
        rw [e1]
        simp only [Bool.false_eq_true, if_false]
        rw [e2]
        refine ⟨by simp, ?_⟩
        intro i hi
        rcases List.mem_append.1 hi with e | e
        · exact h2 i e
        · simp at e; subst e; exact ⟨nd, h⟩

theorem Gr.dfs_sub (G : Gr) : ∀ (n : Nat) (l : List Nat) (r i : Nat), i ∈ l → i ∈ G.dfs n l r := by
  intro n
  induction n with
  | zero => intro l r i h; exact h
  | succ n ih =>
    intro l r i h
    unfold Gr.dfs
    split
    · exact h
    · split
      · exact h
      · exact List.mem_append_left _ (ih _ _ _ (ih _ _ _ h))

theorem Gr.Ok.dfs_lev {G : Gr} (k : G.Ok) : ∀ (n : Nat) (l : List Nat) (r i : Nat), i ∈ G.dfs n l r → i ∈ l ∨ G.lev r ≤ G.lev (2 * i) := by
  intro n
  induction n with
  | zero => intro l r i h; exact .inl h
  | succ n ih =>
    intro l r i h
    unfold Gr.dfs at h
    split at h
    · exact .inl h
    · split at h
      · exact .inl h
      · rename_i nd hn
        have h1 := k.tlev hn
        have h2 := k.elev hn
        rw [Gr.lev_node hn]
        rcases List.mem_append.1 h with e | e
        · rcases ih _ _ _ e with e | e
          · rcases ih _ _ _ e with e | e
            · exact .inl e
            · exact .inr (by omega)
          · exact .inr (by omega)
        · simp at e; subst e
          right
          rw [Gr.lev_node (n := nd) (by simpa using hn)]
          exact Nat.le_refl _

theorem Gr.Ok.dfs_nodup {G : Gr} (k : G.Ok) : ∀ (n : Nat) (l : List Nat) (r : Nat), l.Nodup → (G.dfs n l r).Nodup := by
  intro n
  induction n with
  | zero => intro l r h; exact h
  | succ n ih =>
    intro l r h
    unfold Gr.dfs
    split
    · exact h
    · rename_i hni
      split
      · exact h
      · rename_i nd hn
        rw [List.nodup_append]
        refine ⟨ih _ _ (ih _ _ h), by simp, ?_⟩
        intro a ha b hb
        simp at hb
        subst hb
        intro e
        subst e
        have h1 := k.tlev hn
        have h2 := k.elev hn
        have h3 := Gr.lev_node (G := G) (r := 2 * (r / 2)) (n := nd) (by simpa using hn)
        rcases k.dfs_lev _ _ _ _ ha with e | e
        · rcases k.dfs_lev _ _ _ _ e with e | e
          · exact hni e
          · omega
        · omega

def Gr.Closed (G : Gr) (S : Nat → Prop) : Prop := ∀ i, S i → ∀ n, G.node i = some n → (n.t / 2 = 0 ∨ S (n.t / 2)) ∧ (n.e / 2 = 0 ∨ S (n.e / 2))

/-- The nodes that some references reach. -/
def Gr.Reach (G : Gr) (R : Nat → Prop) (i : Nat) : Prop := G.has i ∧ ∀ S : Nat → Prop, G.Closed S → (∀ r, R r → r / 2 = 0 ∨ S (r / 2)) → S i

theorem Gr.Ok.dfs_has {G : Gr} (k : G.Ok) : ∀ (n : Nat) (l : List Nat) (r : Nat), G.ok r → G.order.length - G.lev r < n → r / 2 = 0 ∨ r / 2 ∈ G.dfs n l r := by
  intro n l r hr hn
  rcases hr with h | ⟨nd, h⟩
  · exact .inl h
  · right
    cases n with
    | zero => omega
    | succ n =>
      unfold Gr.dfs
      split
      · assumption
      · rw [h]; simp

theorem Gr.Ok.dfs_closed {G : Gr} (k : G.Ok) : ∀ (n : Nat) (l : List Nat) (r : Nat), G.ok r → G.order.length - G.lev r < n → G.Closed (· ∈ l) → G.Closed (· ∈ G.dfs n l r) := by
  intro n
  induction n with
  | zero => intro l r _ hn; omega
  | succ n ih =>
    intro l r hr hn hc
    unfold Gr.dfs
    split
    · exact hc
    · rename_i hni
      split
      · exact hc
      · rename_i nd hnd
        have h1 := k.tlev hnd
        have h2 := k.elev hnd
        have h3 := k.idx_lt hnd
        rw [Gr.lev_node hnd] at hn
        have c1 := ih l nd.t (k.tok hnd) (by omega) hc
        have c2 := ih (G.dfs n l nd.t) nd.e (k.eok hnd) (by omega) c1
        have m1 := k.dfs_has n l nd.t (k.tok hnd) (by omega)
        have m2 := k.dfs_has n (G.dfs n l nd.t) nd.e (k.eok hnd) (by omega)
        intro i hi n' hn'
        rcases List.mem_append.1 hi with e | e
        · obtain ⟨a, b⟩ := c2 i e n' hn'
          exact ⟨a.imp id (List.mem_append_left _), b.imp id (List.mem_append_left _)⟩
        · simp at e
          subst e
          rw [hnd] at hn'
          cases hn'
          exact ⟨m1.imp id (fun e => List.mem_append_left _ (Gr.dfs_sub _ _ _ _ _ e)), m2.imp id (List.mem_append_left _)⟩

theorem Gr.dfs_min (G : Gr) {S : Nat → Prop} (hS : G.Closed S) : ∀ (n : Nat) (l : List Nat) (r : Nat), (∀ i ∈ l, S i) → (r / 2 = 0 ∨ S (r / 2)) → G.node 0 = none → ∀ i ∈ G.dfs n l r, S i := by
  intro n
  induction n with
  | zero => intro l r h _ _; exact h
  | succ n ih =>
    intro l r h hr h0
    unfold Gr.dfs
    split
    · exact h
    · split
      · exact h
      · rename_i nd hnd
        have hs : S (r / 2) := by
          rcases hr with e | e
          · rw [e, h0] at hnd; cases hnd
          · exact e
        obtain ⟨a, b⟩ := hS _ hs nd hnd
        intro i hi
        rcases List.mem_append.1 hi with e | e
        · exact ih _ _ (ih _ _ h a h0) b h0 i e
        · simp at e; subst e; exact hs

def Gr.dfsAll (G : Gr) (rs : List Nat) : List Nat := rs.foldl (G.dfs (G.order.length + 1)) []

theorem Gr.Ok.fold_dfs {G : Gr} (k : G.Ok) : ∀ (rs : List Nat) (l : List Nat), (∀ i ∈ l, G.has i) → l.Nodup → G.Closed (· ∈ l) → (∀ r ∈ rs, G.ok r) →
    (rs.map G.tab).foldl (nodesT G.order (G.order.length + 1)) (l.map G.sem) = (rs.foldl (G.dfs (G.order.length + 1)) l).map G.sem ∧
    (∀ i ∈ rs.foldl (G.dfs (G.order.length + 1)) l, G.has i) ∧ (rs.foldl (G.dfs (G.order.length + 1)) l).Nodup ∧ G.Closed (· ∈ rs.foldl (G.dfs (G.order.length + 1)) l) ∧
    (∀ i ∈ l, i ∈ rs.foldl (G.dfs (G.order.length + 1)) l) ∧ (∀ r ∈ rs, r / 2 = 0 ∨ r / 2 ∈ rs.foldl (G.dfs (G.order.length + 1)) l) ∧
    (∀ S, G.Closed S → (∀ i ∈ l, S i) → (∀ r ∈ rs, r / 2 = 0 ∨ S (r / 2)) → ∀ i ∈ rs.foldl (G.dfs (G.order.length + 1)) l, S i) := by
  intro rs
  induction rs with
  | nil => intro l h1 h2 h3 _; exact ⟨rfl, h1, h2, h3, fun i h => h, by simp, fun S _ h _ => h⟩
  | cons r rs ih =>
    intro l h1 h2 h3 h4
    have hr := h4 r (List.mem_cons_self)
    have hf : G.order.length - G.lev r < G.order.length + 1 := by omega
    obtain ⟨e, hh⟩ := k.nodes_dfs (G.order.length + 1) l r h1 hr
    obtain ⟨a1, a2, a3, a4, a5, a6, a7⟩ := ih (G.dfs (G.order.length + 1) l r) hh (k.dfs_nodup _ _ _ h2) (k.dfs_closed _ _ _ hr hf h3) (fun s hs => h4 s (List.mem_cons_of_mem _ hs))
    simp only [List.map_cons, List.foldl_cons]
    rw [e]
    refine ⟨a1, a2, a3, a4, fun i hi => a5 i (Gr.dfs_sub _ _ _ _ _ hi), ?_, ?_⟩
    · intro s hs
      rcases List.mem_cons.1 hs with e | e
      · subst e
        exact (k.dfs_has _ l s hr hf).imp id (a5 _)
      · exact a6 s e
    · intro S hS hl hrs
      exact a7 S hS (Gr.dfs_min G hS _ _ _ hl (hrs r (List.mem_cons_self)) k.zero) (fun s hs => hrs s (List.mem_cons_of_mem _ hs))

theorem Gr.Ok.all_dfs {G : Gr} (k : G.Ok) (rs : List Nat) (h : ∀ r ∈ rs, G.ok r) :
    allT G.order (rs.map G.tab) = (G.dfsAll rs).map G.sem ∧ (G.dfsAll rs).Nodup ∧ ∀ i, i ∈ G.dfsAll rs ↔ G.Reach (· ∈ rs) i := by
  obtain ⟨a1, a2, a3, a4, a5, a6, a7⟩ := k.fold_dfs rs [] (by simp) (by simp) (by intro i hi; simp at hi) h
  refine ⟨a1, a3, fun i => ⟨fun hi => ⟨a2 i hi, fun S hS hr => a7 S hS (by simp) hr i hi⟩, fun ⟨_, hi⟩ => hi _ a4 a6⟩⟩

theorem length_of_same {l l' : List Nat} (h : l.Nodup) (h' : l'.Nodup) (e : ∀ i, i ∈ l ↔ i ∈ l') : l.length = l'.length :=
  ((List.perm_ext_iff_of_nodup h h').2 e).length_eq

/-- How many nodes: as many as are reached. -/
theorem Gr.Ok.count {G : Gr} (k : G.Ok) (rs : List Nat) (h : ∀ r ∈ rs, G.ok r) (N : List Nat) (hN : N.Nodup) (hm : ∀ i, i ∈ N ↔ G.Reach (· ∈ rs) i) : (allT G.order (rs.map G.tab)).length = N.length := by
  obtain ⟨a1, a2, a3⟩ := k.all_dfs rs h
  rw [a1, List.length_map]
  exact length_of_same a2 hN (fun i => (a3 i).trans (hm i).symm)

end Go.Proofs.Ytebfmcafmojlaaa

/-
  A graph that grows: one node more; what is made on the way to an answer.
-/
namespace Go.Proofs.Ytebfmcafmojlaaa
set_option linter.unusedSimpArgs false
set_option linter.unusedVariables false

def Gr.add (G : Gr) (i : Nat) (n : Nd) : Gr :=
  { G with node := fun j => if j = i then some n else G.node j, sem := fun j => if j = i then iteT (mask n.v) (G.tab n.t) (G.tab n.e) else G.sem j }

/-- G' has all that G has, under the same numbers. -/
structure Gr.Ext (G G' : Gr) : Prop where
  order : G'.order = G.order
  node : ∀ {i n}, G.node i = some n → G'.node i = some n
  sem : ∀ {i}, (i = 0 ∨ G.has i) → G'.sem i = G.sem i

theorem Gr.Ext.refl (G : Gr) : G.Ext G := ⟨rfl, id, fun _ => rfl⟩

theorem Gr.Ext.has {G G' : Gr} (h : G.Ext G') {i : Nat} (hi : G.has i) : G'.has i := by obtain ⟨n, hn⟩ := hi; exact ⟨n, h.node hn⟩

theorem Gr.Ext.trans {G G' G'' : Gr} (h : G.Ext G') (k : G'.Ext G'') : G.Ext G'' :=
  ⟨k.order.trans h.order, fun hn => k.node (h.node hn), fun hi => (k.sem (hi.imp id h.has)).trans (h.sem hi)⟩

theorem Gr.Ext.ok {G G' : Gr} (h : G.Ext G') {r : Nat} (hr : G.ok r) : G'.ok r := hr.imp id (fun hn => h.has hn)
theorem Gr.Ext.tab {G G' : Gr} (h : G.Ext G') {r : Nat} (hr : G.ok r) : G'.tab r = G.tab r := by unfold Gr.tab; rw [h.sem hr]
theorem Gr.Ext.idx {G G' : Gr} (h : G.Ext G') (v : Nat) : G'.idx v = G.idx v := by unfold Gr.idx; rw [h.order]
theorem Gr.Ext.lev {G G' : Gr} (h : G.Ext G') (k : G.Ok) (k' : G'.Ok) {r : Nat} (hr : G.ok r) : G'.lev r = G.lev r := by
  rcases hr with e | ⟨n, e⟩
  · rw [Gr.lev_const k e, Gr.lev_const k' e, h.order]
  · rw [Gr.lev_node e, Gr.lev_node (h.node e), h.idx]

theorem Gr.add_ext (G : Gr) {i : Nat} {n : Nd} (hi : i ≠ 0) (hn : G.node i = none) : G.Ext (G.add i n) := by
  refine ⟨rfl, ?_, ?_⟩
  · intro j m hm
    have : j ≠ i := by intro e; subst e; rw [hn] at hm; cases hm
    simp [Gr.add, this, hm]
  · intro j hj
    have : j ≠ i := by
      intro e
      subst e
      rcases hj with e | ⟨m, hm⟩
      · exact hi e
      · rw [hn] at hm; cases hm
    simp [Gr.add, this]

theorem Gr.add_node (G : Gr) (i : Nat) (n : Nd) : (G.add i n).node i = some n := by simp [Gr.add]

theorem Gr.Ok.add {G : Gr} (k : G.Ok) {i : Nat} {n : Nd} (hi : i ≠ 0) (hn : G.node i = none) (hv : n.v ∈ G.order) (ht : n.t % 2 = 0) (ot : G.ok n.t) (oe : G.ok n.e) (lt : G.idx n.v < G.lev n.t) (le : G.idx n.v < G.lev n.e) (hne : n.t ≠ n.e)
    (hnew : ∀ j, G.node j ≠ some n) : (G.add i n).Ok := by
  have hx := G.add_ext (n := n) hi hn
  have hcase : ∀ {j m}, (G.add i n).node j = some m → (j = i ∧ m = n) ∨ (j ≠ i ∧ G.node j = some m) := by
    intro j m h
    by_cases e : j = i
    · subst e; rw [Gr.add_node] at h; exact .inl ⟨rfl, (Option.some.inj h).symm⟩
    · simp [Gr.add, e] at h; exact .inr ⟨e, h⟩
  have hz : (G.add i n).node 0 = none := by
    have h0 : ¬ 0 = i := fun e => hi e.symm
    simp [Gr.add, h0, k.zero]
  have hlev : ∀ {r}, G.ok r → (G.add i n).lev r = G.lev r := by
    intro r hr
    rcases hr with e | ⟨m, e⟩
    · unfold Gr.lev; rw [e, hz, k.zero]; rfl
    · rw [Gr.lev_node e, Gr.lev_node (hx.node e)]; rfl
  refine ⟨k.nodup, k.lt6, hz, ?_, ?_, ?_, ?_, ?_, ?_, ?_, ?_, ?_, ?_⟩
  · rw [hx.sem (.inl rfl)]; exact k.sem0
  · intro j m h; rcases hcase h with ⟨_, rfl⟩ | ⟨_, h⟩; exact hv; exact k.var h
  · intro j m h; rcases hcase h with ⟨_, rfl⟩ | ⟨_, h⟩; exact ht; exact k.tev h
  · intro j m h; rcases hcase h with ⟨_, rfl⟩ | ⟨_, h⟩; exact hx.ok ot; exact hx.ok (k.tok h)
  · intro j m h; rcases hcase h with ⟨_, rfl⟩ | ⟨_, h⟩; exact hx.ok oe; exact hx.ok (k.eok h)
  · intro j m h
    rcases hcase h with ⟨_, rfl⟩ | ⟨_, h⟩
    · rw [hlev ot]; exact lt
    · rw [hlev (k.tok h)]; exact k.tlev h
  · intro j m h
    rcases hcase h with ⟨_, rfl⟩ | ⟨_, h⟩
    · rw [hlev oe]; exact le
    · rw [hlev (k.eok h)]; exact k.elev h
  · intro j m h; rcases hcase h with ⟨_, rfl⟩ | ⟨_, h⟩; exact hne; exact k.ne h
  · intro j m h
    rcases hcase h with ⟨rfl, rfl⟩ | ⟨e, h⟩
    · rw [hx.tab ot, hx.tab oe]; simp [Gr.add]
    · rw [hx.tab (k.tok h), hx.tab (k.eok h), hx.sem (.inr ⟨m, h⟩)]; exact k.is h
  · intro j j' m h h'
    rcases hcase h with ⟨e1, e2⟩ | ⟨e1, q⟩ <;> rcases hcase h' with ⟨e3, e4⟩ | ⟨e3, q'⟩
    · rw [e1, e3]
    · rw [e2] at q'; exact absurd q' (hnew _)
    · rw [e4] at q; exact absurd q (hnew _)
    · exact k.inj q q'

theorem Gr.Closed.ext {G G' : Gr} (h : G.Ext G') {S : Nat → Prop} (hS : G'.Closed S) : G.Closed S := fun i hi n hn => hS i hi n (h.node hn)

theorem Gr.Reach.ext {G G' : Gr} (h : G.Ext G') {R : Nat → Prop} {i : Nat} (hr : G.Reach R i) : G'.Reach R i :=
  ⟨h.has hr.1, fun S hS hR => hr.2 S (hS.ext h) hR⟩

theorem Gr.Reach.mono {G : Gr} {R R' : Nat → Prop} {i : Nat} (h : G.Reach R i) (hR : ∀ r, R r → R' r) : G.Reach R' i :=
  ⟨h.1, fun S hS hr => h.2 S hS (fun r hr' => hr r (hR r hr'))⟩

/-- What a reference reaches that is a child's. -/
theorem Gr.Reach.step {G : Gr} {s : Nat} {n : Nd} (hn : G.node (s / 2) = some n) {i c : Nat} (hc : c / 2 = n.t / 2 ∨ c / 2 = n.e / 2) (h : G.Reach (· = c) i) (h0 : G.node 0 = none) : G.Reach (· = s) i := by
  refine ⟨h.1, fun S hS hR => h.2 S hS ?_⟩
  intro r hr
  subst hr
  have hs : S (s / 2) := by
    rcases hR s rfl with e | e
    · rw [e, h0] at hn; cases hn
    · exact e
  obtain ⟨a, b⟩ := hS _ hs n hn
  rcases hc with e | e
  · rw [e]; exact a
  · rw [e]; exact b

theorem Gr.Reach.half {G : Gr} {s s' i : Nat} (e : s / 2 = s' / 2) (h : G.Reach (· = s) i) : G.Reach (· = s') i :=
  ⟨h.1, fun S hS hR => h.2 S hS (fun r hr => by subst hr; rw [e]; exact hR s' rfl)⟩

theorem Gr.Reach.self {G : Gr} {s : Nat} (h : G.has (s / 2)) (h0 : G.node 0 = none) : G.Reach (· = s) (s / 2) :=
  ⟨h, fun S hS hR => (hR s rfl).resolve_left (fun e => by obtain ⟨n, hn⟩ := h; rw [e, h0] at hn; cases hn)⟩

/-- From G a call came to G', and to r: no nodes are new but r's. -/
structure Gr.Made (G G' : Gr) (r : Nat) : Prop where
  ext : G.Ext G'
  good : G'.Ok
  ok : G'.ok r
  new : ∀ i, G'.has i → G.has i ∨ G'.Reach (· = r) i

theorem Gr.Made.refl {G : Gr} (k : G.Ok) {r : Nat} (h : G.ok r) : G.Made G r := ⟨Gr.Ext.refl G, k, h, fun i hi => .inl hi⟩

theorem iteT_not (f g h : Tab) : iteT f (~~~ g) (~~~ h) = ~~~ iteT f g h := by
  apply tab_ext
  intro a ha
  rw [iteT_bit _ _ _ _ ha, BitVec.getLsbD_not, BitVec.getLsbD_not, BitVec.getLsbD_not, iteT_bit _ _ _ _ ha]
  split <;> rfl

theorem iteT_same (f g : Tab) : iteT f g g = g := by
  apply tab_ext
  intro a ha
  rw [iteT_bit _ _ _ _ ha]; split <;> rfl

/-- The node that join looks for. -/
def joinN (v t e : Nat) : Nd := ⟨v, t - t % 2, tl e t⟩

theorem joinN_tab (G : Gr) (v t e : Nat) : (if t % 2 = 0 then iteT (mask v) (G.tab (t - t % 2)) (G.tab (tl e t)) else ~~~ iteT (mask v) (G.tab (t - t % 2)) (G.tab (tl e t))) = iteT (mask v) (G.tab t) (G.tab e) := by
  rw [G.tab_tl]
  rcases Nat.mod_two_eq_zero_or_one t with h | h
  · rw [if_pos h, if_pos h, h]; rfl
  · have e1 : (1 : Nat) ≠ 0 := by decide
    have e2 : (t - 1) % 2 = 0 := by omega
    have e3 : (t - 1) / 2 = t / 2 := by omega
    have e4 : G.tab t = ~~~ G.sem (t / 2) := by unfold Gr.tab; rw [if_neg (by omega)]
    have e5 : G.tab (t - 1) = G.sem (t / 2) := by unfold Gr.tab; rw [if_pos e2, e3]
    rw [h, if_neg e1, if_neg e1, ← iteT_not, e5, e4, not_not_tab]

/-- Both parts are alike. -/
theorem Gr.Made.join_same {G G1 G2 : Gr} {t : Nat} (h1 : G.Made G1 t) (h2 : G1.Made G2 t) : G.Made G2 t :=
  ⟨h1.ext.trans h2.ext, h2.good, h2.ok, fun i hi => by
    rcases h2.new i hi with h | h
    · rcases h1.new i h with h | h
      · exact .inl h
      · exact .inr (h.ext h2.ext)
    · exact .inr h⟩

theorem joinN_ne {v t e : Nat} (h : t ≠ e) : (joinN v t e).t ≠ (joinN v t e).e := by
  unfold joinN tl
  simp only
  split
  · omega
  · split <;> omega

theorem joinN_lev {G : Gr} {v t e : Nat} (ht : G.idx v < G.lev t) (he : G.idx v < G.lev e) : G.idx (joinN v t e).v < G.lev (joinN v t e).t ∧ G.idx (joinN v t e).v < G.lev (joinN v t e).e := by
  refine ⟨?_, by show G.idx v < G.lev (tl e t); rw [Gr.lev_tl]; exact he⟩
  show G.idx v < G.lev (t - t % 2)
  have : (t - t % 2) / 2 = t / 2 := by omega
  unfold Gr.lev at ht ⊢
  rw [this]
  exact ht

theorem joinN_ok {G : Gr} {v t e : Nat} (ht : G.ok t) (he : G.ok e) : G.ok (joinN v t e).t ∧ G.ok (joinN v t e).e := by
  refine ⟨?_, by show G.ok (tl e t); rw [Gr.ok_tl]; exact he⟩
  show G.ok (t - t % 2)
  have : (t - t % 2) / 2 = t / 2 := by omega
  unfold Gr.ok at ht ⊢
  rw [this]
  exact ht

/-- The node is there. -/
theorem Gr.Made.join_found {G G1 G2 : Gr} {v t e i : Nat} (h1 : G.Made G1 t) (h2 : G1.Made G2 e) (hi : G2.node i = some (joinN v t e)) :
    G.Made G2 (tl (2 * i) t) ∧ G2.tab (tl (2 * i) t) = iteT (mask v) (G2.tab t) (G2.tab e) := by
  have hk := h2.good
  have hh : tl (2 * i) t / 2 = i := by rw [tl_half]; omega
  have hi' : G2.node (tl (2 * i) t / 2) = some (joinN v t e) := by rw [hh]; exact hi
  refine ⟨⟨h1.ext.trans h2.ext, hk, .inr ⟨_, hi'⟩, ?_⟩, ?_⟩
  · intro j hj
    rcases h2.new j hj with h | h
    · rcases h1.new j h with h | h
      · exact .inl h
      · right
        refine Gr.Reach.step hi' (c := t) (.inl ?_) (h.ext h2.ext) hk.zero
        show t / 2 = (t - t % 2) / 2
        omega
    · right
      refine Gr.Reach.step hi' (c := e) (.inr ?_) h hk.zero
      show e / 2 = tl e t / 2
      rw [tl_half]
  · rw [Gr.tab_tl]
    have e1 : G2.tab (2 * i) = G2.sem i := by unfold Gr.tab; rw [if_pos (by omega)]; congr 1; omega
    rw [e1, hk.is hi]
    exact joinN_tab G2 v t e

/-- The node is new. -/
theorem Gr.Made.join_new {G G1 G2 : Gr} {v t e i : Nat} (h1 : G.Made G1 t) (h2 : G1.Made G2 e) (hne : t ≠ e) (hv : v ∈ G2.order) (lt : G2.idx v < G2.lev t) (le : G2.idx v < G2.lev e) (hi0 : i ≠ 0) (hi : G2.node i = none) (hnew : ∀ j, G2.node j ≠ some (joinN v t e)) :
    G.Made (G2.add i (joinN v t e)) (tl (2 * i) t) ∧ (G2.add i (joinN v t e)).tab (tl (2 * i) t) = iteT (mask v) (G2.tab t) (G2.tab e) ∧ (G2.add i (joinN v t e)).Ok ∧ G2.Ext (G2.add i (joinN v t e)) := by
  have hk := h2.good
  have hx := G2.add_ext (n := joinN v t e) hi0 hi
  have ok3 : (G2.add i (joinN v t e)).Ok := hk.add hi0 hi hv (by show (t - t % 2) % 2 = 0; omega) (joinN_ok (h2.ext.ok h1.ok) h2.ok).1 (joinN_ok (h2.ext.ok h1.ok) h2.ok).2 (joinN_lev lt le).1 (joinN_lev lt le).2 (joinN_ne hne) hnew
  have h2' : G1.Made (G2.add i (joinN v t e)) e → True := fun _ => trivial
  have hn3 : (G2.add i (joinN v t e)).node i = some (joinN v t e) := Gr.add_node _ _ _
  have hh : tl (2 * i) t / 2 = i := by rw [tl_half]; omega
  have hi' : (G2.add i (joinN v t e)).node (tl (2 * i) t / 2) = some (joinN v t e) := by rw [hh]; exact hn3
  refine ⟨⟨(h1.ext.trans h2.ext).trans hx, ok3, .inr ⟨_, hi'⟩, ?_⟩, ?_, ok3, hx⟩
  · intro j hj
    by_cases ej : j = i
    · right
      have := Gr.Reach.self (G := G2.add i (joinN v t e)) (s := tl (2 * i) t) ⟨_, hi'⟩ ok3.zero
      rw [hh] at this
      rw [ej]
      exact this
    · have hj2 : G2.has j := by
        obtain ⟨m, hm⟩ := hj
        simp [Gr.add, ej] at hm
        exact ⟨m, hm⟩
      rcases h2.new j hj2 with h | h
      · rcases h1.new j h with h | h
        · exact .inl h
        · right
          refine Gr.Reach.step hi' (c := t) (.inl ?_) (h.ext (h2.ext.trans hx)) ok3.zero
          show t / 2 = (t - t % 2) / 2
          omega
      · right
        refine Gr.Reach.step hi' (c := e) (.inr ?_) (h.ext hx) ok3.zero
        show e / 2 = tl e t / 2
        rw [tl_half]
  · rw [Gr.tab_tl]
    have e1 : (G2.add i (joinN v t e)).tab (2 * i) = (G2.add i (joinN v t e)).sem i := by unfold Gr.tab; rw [if_pos (by omega)]; congr 1; omega
    rw [e1, ok3.is hn3, ← hx.tab (h2.ext.ok h1.ok), ← hx.tab h2.ok]
    exact joinN_tab _ v t e

/-- Where it hangs on none of the first variables, its level is behind them. -/
theorem Gr.Ok.lev_gt {G : Gr} (k : G.Ok) {r l : Nat} (hr : G.ok r) (hl : l < G.order.length) (h : ∀ v ∈ G.order, G.idx v ≤ l → hangs (G.tab r) v = false) : l < G.lev r := by
  rcases hr with e | ⟨n, e⟩
  · rw [Gr.lev_const k e]; exact hl
  · rw [Gr.lev_node e]
    apply Nat.lt_of_not_le
    intro hle
    have := h n.v (k.var e) hle
    rw [Gr.hangs_tab _ _ (k.v6 e), k.hangs_top e] at this
    cases this

/-- What f is when the variable of a level has a value. -/
def Gr.br (G : Gr) (r l : Nat) (b : Bool) : Nat :=
  match G.node (r / 2) with
  | some n => if G.idx n.v = l then tl (if b then n.t else n.e) r else r
  | none => r

theorem Gr.Ok.br_ok {G : Gr} (k : G.Ok) {r l : Nat} {b : Bool} (h : G.ok r) : G.ok (G.br r l b) := by
  unfold Gr.br
  split
  · rename_i n hn
    split
    · rw [Gr.ok_tl]; cases b; exact k.eok hn; exact k.tok hn
    · exact h
  · exact h

theorem Gr.Ok.br_lev {G : Gr} (k : G.Ok) {r l : Nat} {b : Bool} (h : G.ok r) (hl : l ≤ G.lev r) (hl' : l < G.order.length) : l < G.lev (G.br r l b) := by
  unfold Gr.br
  split
  · rename_i n hn
    split
    · rename_i e
      rw [Gr.lev_tl, ← e]
      cases b
      · exact k.elev hn
      · exact k.tlev hn
    · rename_i e
      rw [Gr.lev_node hn] at hl ⊢
      omega
  · rename_i hn
    have : r / 2 = 0 := by
      rcases h with e | ⟨n, e⟩
      · exact e
      · rw [hn] at e; cases e
    rw [Gr.lev_const k this]
    exact hl'

theorem Gr.Ok.br_tab {G : Gr} (k : G.Ok) {r l v : Nat} {b : Bool} (h : G.ok r) (hv : v ∈ G.order) (hl : G.idx v = l) (hle : l ≤ G.lev r) : G.tab (G.br r l b) = given (G.tab r) v b := by
  have hv6 := k.lt6 v hv
  by_cases hlt : l < G.lev r
  · rw [given_of_not_hangs _ _ _ hv6 (k.ahead h hv6 (.inl (by omega)))]
    unfold Gr.br
    split
    · rename_i n hn
      rw [Gr.lev_node hn] at hlt
      rw [if_neg (by omega)]
    · rfl
  · have hlen : l < G.order.length := by rw [← hl]; exact List.idxOf_lt_length_of_mem hv
    obtain ⟨n, hn⟩ := Gr.lev_ne k h (by omega)
    have hle2 := Gr.lev_node hn
    have hnv : n.v = v := idxOf_inj (k.var hn) (by show G.idx n.v = G.idx v; omega)
    unfold Gr.br
    rw [hn]
    simp only
    rw [if_pos (by omega), G.tab_tl, ← hnv]
    have hg := k.given_node hn b
    have hsel : G.tab (if b then n.t else n.e) = if b then G.tab n.t else G.tab n.e := by cases b <;> rfl
    unfold Gr.tab at hg hsel ⊢
    split
    · rw [hsel, hg]
    · rw [given_not _ _ _ (k.v6 hn), hg]
      rw [hsel]

end Go.Proofs.Ytebfmcafmojlaaa

/-
  TWO VARIABLES CHANGE PLACES: graphs by what their nodes tell.
-/
namespace Go.Proofs.Ytebfmcafmojlaaa
set_option linter.unusedSimpArgs false
set_option linter.unusedVariables false

/-- A graph in which a node of variable v may hang on a variable u ahead of it where ex v u. -/
structure Gr.Sm (G : Gr) (ex : Nat → Nat → Prop) : Prop where
  nodup : G.order.Nodup
  lt6 : ∀ v ∈ G.order, v < 6
  zero : G.node 0 = none
  sem0 : G.sem 0 = onesT
  var : ∀ {i n}, G.node i = some n → n.v ∈ G.order
  tev : ∀ {i n}, G.node i = some n → n.t % 2 = 0
  tok : ∀ {i n}, G.node i = some n → G.ok n.t
  eok : ∀ {i n}, G.node i = some n → G.ok n.e
  ne : ∀ {i n}, G.node i = some n → n.t ≠ n.e
  is : ∀ {i n}, G.node i = some n → G.sem i = iteT (mask n.v) (G.tab n.t) (G.tab n.e)
  td : ∀ {i n}, G.node i = some n → hangs (G.tab n.t) n.v = false
  ed : ∀ {i n}, G.node i = some n → hangs (G.tab n.e) n.v = false
  up : ∀ {i n}, G.node i = some n → ∀ u ∈ G.order, G.idx u < G.idx n.v → ¬ ex n.v u → hangs (G.sem i) u = false
  si : ∀ {i j n m}, G.node i = some n → G.node j = some m → G.sem i = G.sem j → i = j
  b63 : ∀ {i n}, G.node i = some n → (G.sem i).getLsbD 63 = true
  nc : ∀ {i n}, G.node i = some n → G.sem i ≠ onesT

theorem Gr.Sm.v6 {G : Gr} {ex : Nat → Nat → Prop} (k : G.Sm ex) {i : Nat} {n : Nd} (h : G.node i = some n) : n.v < 6 := k.lt6 _ (k.var h)

theorem Gr.Sm.bit {G : Gr} {ex : Nat → Nat → Prop} (k : G.Sm ex) {r : Nat} (h : G.ok r) : (G.tab r).getLsbD 63 = decide (r % 2 = 0) := by
  have hs : (G.sem (r / 2)).getLsbD 63 = true := by
    rcases h with e | ⟨n, e⟩
    · rw [e, k.sem0]; exact onesT_bit 63 (by omega)
    · exact k.b63 e
  unfold Gr.tab
  split
  · rename_i h2; rw [hs]; simp [h2]
  · rename_i h2; simp [hs, h2]

theorem Gr.Sm.same {G : Gr} {ex : Nat → Nat → Prop} (k : G.Sm ex) {r s : Nat} (hr : G.ok r) (hs : G.ok s) (h : G.tab r = G.tab s) : r = s := by
  have h1 := k.bit hr
  have h2 := k.bit hs
  rw [h, h2] at h1
  have hp : r % 2 = s % 2 := by
    by_cases e : s % 2 = 0
    · simp [e] at h1; omega
    · simp [e] at h1; omega
  have hsem : G.sem (r / 2) = G.sem (s / 2) := by
    unfold Gr.tab at h
    rw [hp] at h
    split at h
    · exact h
    · exact not_inj_tab h
  have hh : r / 2 = s / 2 := by
    rcases hr with e | ⟨n, e⟩
    · rcases hs with e2 | ⟨m, e2⟩
      · omega
      · rw [e, k.sem0] at hsem
        exact absurd hsem.symm (k.nc e2)
    · rcases hs with e2 | ⟨m, e2⟩
      · rw [e2, k.sem0] at hsem
        exact absurd hsem (k.nc e)
      · exact k.si e e2 hsem
  omega

theorem Gr.Sm.given_node {G : Gr} {ex : Nat → Nat → Prop} (k : G.Sm ex) {i : Nat} {n : Nd} (h : G.node i = some n) (b : Bool) : given (G.sem i) n.v b = if b then G.tab n.t else G.tab n.e := by
  rw [k.is h]
  exact given_join _ _ _ _ (k.v6 h) (k.td h) (k.ed h)

theorem Gr.Sm.hangs_top {G : Gr} {ex : Nat → Nat → Prop} (k : G.Sm ex) {i : Nat} {n : Nd} (h : G.node i = some n) : hangs (G.sem i) n.v = true := by
  rw [hangs_true_iff, k.given_node h, k.given_node h]
  intro e
  simp at e
  exact k.ne h (k.same (k.tok h) (k.eok h) e)

/-- What a part hangs on, the whole hangs on. -/
theorem Gr.Sm.kid {G : Gr} {ex : Nat → Nat → Prop} (k : G.Sm ex) {i : Nat} {n : Nd} (h : G.node i = some n) {u : Nat} (hu : u < 6) (hh : hangs (G.tab n.t) u = true ∨ hangs (G.tab n.e) u = true) : hangs (G.sem i) u = true := by
  rcases hh with hh | hh
  · have := k.given_node h true
    simp at this
    rw [← this] at hh
    exact hangs_given _ _ _ _ (k.v6 h) hu hh
  · have := k.given_node h false
    simp at this
    rw [← this] at hh
    exact hangs_given _ _ _ _ (k.v6 h) hu hh

theorem Gr.Sm.mono {G : Gr} {ex ex' : Nat → Nat → Prop} (k : G.Sm ex) (h : ∀ v u, ex v u → ex' v u) : G.Sm ex' :=
  { k with up := fun hn u hu hlt he => k.up hn u hu hlt (fun e => he (h _ _ e)) }

theorem Gr.Ok.sm {G : Gr} (k : G.Ok) : G.Sm (fun _ _ => False) where
  nodup := k.nodup
  lt6 := k.lt6
  zero := k.zero
  sem0 := k.sem0
  var := k.var
  tev := k.tev
  tok := k.tok
  eok := k.eok
  ne := k.ne
  is := k.is
  td := k.tfree
  ed := k.efree
  up := fun {i n} hn u hu hlt _ => by
    have hi : G.ok (2 * i) := .inr ⟨n, by rw [show 2 * i / 2 = i by omega]; exact hn⟩
    have h := k.ahead hi (k.lt6 u hu) (.inl (by rw [Gr.lev_node (n := n) (by rw [show 2 * i / 2 = i by omega]; exact hn)]; exact hlt))
    rw [Gr.hangs_tab _ _ (k.lt6 u hu), show 2 * i / 2 = i by omega] at h
    exact h
  si := fun {i j n m} hi hj h => k.sem_inj ⟨n, hi⟩ ⟨m, hj⟩ h
  b63 := fun {i n} hn => by
    have hi : G.ok (2 * i) := .inr ⟨n, by rw [show 2 * i / 2 = i by omega]; exact hn⟩
    have := k.bit63 _ (2 * i) hi (Nat.le_refl _)
    rw [show 2 * i / 2 = i by omega] at this
    exact this
  nc := fun {i n} hn h => by
    have h1 := k.hangs_top hn
    rw [h, hangs_ones _ (k.v6 hn)] at h1
    cases h1

theorem Gr.Sm.lev_gt {G : Gr} {ex : Nat → Nat → Prop} (k : G.Sm ex) {r l : Nat} (hr : G.ok r) (hl : l < G.order.length) (h : ∀ v ∈ G.order, G.idx v ≤ l → hangs (G.tab r) v = false) : l < G.lev r := by
  rcases hr with e | ⟨n, e⟩
  · unfold Gr.lev; rw [e, k.zero]; exact hl
  · rw [Gr.lev_node e]
    apply Nat.lt_of_not_le
    intro hle
    have := h n.v (k.var e) hle
    rw [Gr.hangs_tab _ _ (k.v6 e), k.hangs_top e] at this
    cases this

theorem Gr.Sm.ok {G : Gr} (k : G.Sm (fun _ _ => False)) : G.Ok := by
  have hlev : ∀ {i n}, G.node i = some n → ∀ c, G.ok c → (∀ u, u < 6 → hangs (G.tab c) u = true → hangs (G.sem i) u = true) → hangs (G.tab c) n.v = false → G.idx n.v < G.lev c := by
    intro i n hn c hc hk hv
    refine k.lev_gt hc (List.idxOf_lt_length_of_mem (k.var hn)) ?_
    intro u hu hle
    by_cases e : u = n.v
    · subst e; exact hv
    · have hlt : G.idx u < G.idx n.v := Nat.lt_of_le_of_ne hle (fun e2 => e (idxOf_inj hu e2))
      have := k.up hn u hu hlt (fun h => h)
      cases hh : hangs (G.tab c) u
      · rfl
      · rw [hk u (k.lt6 u hu) hh] at this; cases this
  exact ⟨k.nodup, k.lt6, k.zero, k.sem0, k.var, k.tev, k.tok, k.eok, fun hn => hlev hn _ (k.tok hn) (fun u hu h => k.kid hn hu (.inl h)) (k.td hn), fun hn => hlev hn _ (k.eok hn) (fun u hu h => k.kid hn hu (.inr h)) (k.ed hn), k.ne, k.is, fun hi hj => k.si hi hj ((k.is hi).trans (k.is hj).symm)⟩

theorem Gr.Sm.add {G : Gr} {ex : Nat → Nat → Prop} (k : G.Sm ex) {i : Nat} {n : Nd} (hi : i ≠ 0) (hn : G.node i = none) (hv : n.v ∈ G.order) (ht : n.t % 2 = 0) (ot : G.ok n.t) (oe : G.ok n.e) (hne : n.t ≠ n.e) (td : hangs (G.tab n.t) n.v = false) (ed : hangs (G.tab n.e) n.v = false)
    (up : ∀ u ∈ G.order, G.idx u < G.idx n.v → ¬ ex n.v u → hangs (iteT (mask n.v) (G.tab n.t) (G.tab n.e)) u = false) (hnew : ∀ j m, G.node j = some m → G.sem j ≠ iteT (mask n.v) (G.tab n.t) (G.tab n.e)) : (G.add i n).Sm ex := by
  have hx := G.add_ext (n := n) hi hn
  have hcase : ∀ {j m}, (G.add i n).node j = some m → (j = i ∧ m = n) ∨ (j ≠ i ∧ G.node j = some m) := by
    intro j m h
    by_cases e : j = i
    · subst e; rw [Gr.add_node] at h; exact .inl ⟨rfl, (Option.some.inj h).symm⟩
    · simp [Gr.add, e] at h; exact .inr ⟨e, h⟩
  have hsi : (G.add i n).sem i = iteT (mask n.v) (G.tab n.t) (G.tab n.e) := by simp [Gr.add]
  have hsj : ∀ j, j ≠ i → (G.add i n).sem j = G.sem j := by intro j e; simp [Gr.add, e]
  have hv6 := k.lt6 _ hv
  have hto := hx.tab ot
  have heo := hx.tab oe
  have hgiv : given (iteT (mask n.v) (G.tab n.t) (G.tab n.e)) n.v true = G.tab n.t ∧ given (iteT (mask n.v) (G.tab n.t) (G.tab n.e)) n.v false = G.tab n.e := by
    rw [given_join _ _ _ _ hv6 td ed, given_join _ _ _ _ hv6 td ed]; simp
  have htop : hangs (iteT (mask n.v) (G.tab n.t) (G.tab n.e)) n.v = true := by
    rw [hangs_true_iff, hgiv.1, hgiv.2]
    exact fun e => hne (k.same ot oe e)
  refine ⟨k.nodup, k.lt6, ?_, ?_, ?_, ?_, ?_, ?_, ?_, ?_, ?_, ?_, ?_, ?_, ?_, ?_⟩
  · have h0 : ¬ 0 = i := fun e => hi e.symm
    simp [Gr.add, h0, k.zero]
  · rw [hsj 0 (fun e => hi e.symm)]; exact k.sem0
  · intro j m h
    rcases hcase h with ⟨rfl, rfl⟩ | ⟨_, h⟩
    · exact hv
    · exact k.var h
  · intro j m h
    rcases hcase h with ⟨rfl, rfl⟩ | ⟨_, h⟩
    · exact ht
    · exact k.tev h
  · intro j m h
    rcases hcase h with ⟨rfl, rfl⟩ | ⟨_, h⟩
    · exact hx.ok ot
    · exact hx.ok (k.tok h)
  · intro j m h
    rcases hcase h with ⟨rfl, rfl⟩ | ⟨_, h⟩
    · exact hx.ok oe
    · exact hx.ok (k.eok h)
  · intro j m h
    rcases hcase h with ⟨rfl, rfl⟩ | ⟨_, h⟩
    · exact hne
    · exact k.ne h
  · intro j m h
    rcases hcase h with ⟨rfl, rfl⟩ | ⟨e, h⟩
    · rw [hsi, hto, heo]
    · rw [hsj j e, hx.tab (k.tok h), hx.tab (k.eok h)]; exact k.is h
  · intro j m h
    rcases hcase h with ⟨rfl, rfl⟩ | ⟨e, h⟩
    · rw [hto]; exact td
    · rw [hx.tab (k.tok h)]; exact k.td h
  · intro j m h
    rcases hcase h with ⟨rfl, rfl⟩ | ⟨e, h⟩
    · rw [heo]; exact ed
    · rw [hx.tab (k.eok h)]; exact k.ed h
  · intro j m h u hu hlt he
    rcases hcase h with ⟨rfl, rfl⟩ | ⟨e, h⟩
    · rw [hsi]; exact up u hu hlt he
    · rw [hsj j e]; exact k.up h u hu hlt he
  · intro a b p q ha0 hb0 h
    rcases hcase ha0 with ⟨ea, ep⟩ | ⟨e, ha⟩
    · rcases hcase hb0 with ⟨eb, eq⟩ | ⟨e2, hb⟩
      · rw [ea, eb]
      · rw [ea, hsi, hsj b e2] at h
        exact absurd h.symm (hnew b q hb)
    · rcases hcase hb0 with ⟨eb, eq⟩ | ⟨e2, hb⟩
      · rw [eb, hsi, hsj a e] at h
        exact absurd h (hnew a p ha)
      · rw [hsj a e, hsj b e2] at h
        exact k.si ha hb h
  · intro j m h
    rcases hcase h with ⟨rfl, rfl⟩ | ⟨e, h⟩
    · rw [hsi, iteT_bit _ _ _ _ (by omega), mask63 _ hv6, if_pos rfl, k.bit ot]
      simp [ht]
    · rw [hsj j e]; exact k.b63 h
  · intro j m h h1
    rcases hcase h with ⟨rfl, rfl⟩ | ⟨e, h⟩
    · rw [hsi] at h1
      rw [h1, hangs_ones _ hv6] at htop
      cases htop
    · rw [hsj j e] at h1; exact k.nc h h1

/-- A node asks another variable first; it tells the same. -/
def Gr.set (G : Gr) (i : Nat) (m : Nd) : Gr := { G with node := fun j => if j = i then some m else G.node j }

theorem Gr.set_ok {G : Gr} {i : Nat} {n m : Nd} (hn : G.node i = some n) (r : Nat) : (G.set i m).ok r ↔ G.ok r := by
  unfold Gr.ok Gr.set
  simp only
  by_cases e : r / 2 = i
  · rw [if_pos e, e]
    exact ⟨fun h => h.imp id (fun _ => ⟨n, hn⟩), fun h => h.imp id (fun _ => ⟨m, rfl⟩)⟩
  · rw [if_neg e]

theorem Gr.set_tab (G : Gr) (i : Nat) (m : Nd) (r : Nat) : (G.set i m).tab r = G.tab r := rfl

theorem Gr.Sm.set {G : Gr} {ex : Nat → Nat → Prop} (k : G.Sm ex) {i : Nat} {n m : Nd} (hn : G.node i = some n) (hv : m.v ∈ G.order) (ht : m.t % 2 = 0) (ot : G.ok m.t) (oe : G.ok m.e) (hne : m.t ≠ m.e) (his : G.sem i = iteT (mask m.v) (G.tab m.t) (G.tab m.e)) (td : hangs (G.tab m.t) m.v = false) (ed : hangs (G.tab m.e) m.v = false)
    (up : ∀ u ∈ G.order, G.idx u < G.idx m.v → ¬ ex m.v u → hangs (G.sem i) u = false) : (G.set i m).Sm ex := by
  have hcase : ∀ {j p}, (G.set i m).node j = some p → (j = i ∧ p = m) ∨ (j ≠ i ∧ G.node j = some p) := by
    intro j p h
    by_cases e : j = i
    · subst e; simp [Gr.set] at h; exact .inl ⟨rfl, h.symm⟩
    · simp [Gr.set, e] at h; exact .inr ⟨e, h⟩
  have hany : ∀ {j p}, (G.set i m).node j = some p → ∃ q, G.node j = some q := by
    intro j p h
    rcases hcase h with ⟨rfl, _⟩ | ⟨_, h⟩
    · exact ⟨n, hn⟩
    · exact ⟨p, h⟩
  have hi0 : i ≠ 0 := by intro e; subst e; rw [k.zero] at hn; cases hn
  refine ⟨k.nodup, k.lt6, ?_, k.sem0, ?_, ?_, ?_, ?_, ?_, ?_, ?_, ?_, ?_, ?_, ?_, ?_⟩
  · have h0 : ¬ 0 = i := fun e => hi0 e.symm
    simp [Gr.set, h0, k.zero]
  · intro j p h
    rcases hcase h with ⟨rfl, rfl⟩ | ⟨_, h⟩
    · exact hv
    · exact k.var h
  · intro j p h
    rcases hcase h with ⟨rfl, rfl⟩ | ⟨_, h⟩
    · exact ht
    · exact k.tev h
  · intro j p h
    rw [Gr.set_ok hn]
    rcases hcase h with ⟨rfl, rfl⟩ | ⟨_, h⟩
    · exact ot
    · exact k.tok h
  · intro j p h
    rw [Gr.set_ok hn]
    rcases hcase h with ⟨rfl, rfl⟩ | ⟨_, h⟩
    · exact oe
    · exact k.eok h
  · intro j p h
    rcases hcase h with ⟨rfl, rfl⟩ | ⟨_, h⟩
    · exact hne
    · exact k.ne h
  · intro j p h
    rcases hcase h with ⟨rfl, rfl⟩ | ⟨_, h⟩
    · exact his
    · exact k.is h
  · intro j p h
    rcases hcase h with ⟨rfl, rfl⟩ | ⟨_, h⟩
    · exact td
    · exact k.td h
  · intro j p h
    rcases hcase h with ⟨rfl, rfl⟩ | ⟨_, h⟩
    · exact ed
    · exact k.ed h
  · intro j p h u hu hlt he
    rcases hcase h with ⟨rfl, rfl⟩ | ⟨_, h⟩
    · exact up u hu hlt he
    · exact k.up h u hu hlt he
  · intro a b p q ha hb h
    obtain ⟨p', ha⟩ := hany ha
    obtain ⟨q', hb⟩ := hany hb
    exact k.si ha hb h
  · intro j p h
    obtain ⟨p', h⟩ := hany h
    exact k.b63 h
  · intro j p h
    obtain ⟨p', h⟩ := hany h
    exact k.nc h

end Go.Proofs.Ytebfmcafmojlaaa

