import PyProof.Rows.All
import Wide.All
import OpenK.AllK
import Wide.FinOn
import HandS.ForMost
import HandS.WideBits
import HandS.IsInst
import HandS.Style
import HandS.AnyAll
import HandS.Nested
import HandS.Walk
import HandS.Evl
import HandS.EndTab
import HandS.SortInts
import HandS.SortRule
import HandS.Conv
import KE.KDictPairs
import PyProof.SumAny
import PyProof.WalksPairs
import PyProof.GenCompT
import PySem.Challenge.RW_tinrecall_k01_sets_of_pairs
set_option Elab.async false
set_option linter.all false
set_option maxRecDepth 100000
set_option maxHeartbeats 5000000
/-! ## sum(.. for a, b in ..): a generator expression over a list or a tuple of pairs of whole numbers -/
namespace GP
open PySem PySem.Spec PyProof.Rows L2 GxR

/-- a walk whose items are tuples that stand still -/
theorem asTuples {prog : Program} {w : World} {A : Around} {it : Addr} {foot : List Addr} {n : Nat} {Item : Nat → Value → Prop} {At : Nat → Heap → Prop} (W : Walks prog w A it foot [it] n Item At) (loc : Nat → Addr) (held : Nat → Array Value)
    (isT : ∀ j v, j < n → Item j v → v = .ref (loc j)) (apt : ∀ j, j < n → loc j ≠ it)
    (letGo : ∀ (es : List Expr) (k : Nat) (pos : Pos) (j : Nat) (T : Addr) (s : Shared) (Q : Unit → Shared → Prop) (E : Value → Shared → Prop), At j s.heap → Q () s → wpAny (model prog w) A (letOwnedTupleGo (.Tuple es k pos) (.ref it) (.ref T)) Q E s) :
    WalksU prog w A it (foot ++ (List.range n).map loc) [it] n (fun j xs => xs = held j) (fun j h => At j h ∧ ∀ m, m < n → h.IsTuple (loc m) (held m))
      (fun j T h => (j < n ∧ T = loc j) ∧ At (j + 1) h ∧ ∀ m, m < n → h.IsTuple (loc m) (held m)) := by
  have inFoot : ∀ m, m < n → loc m ∈ foot ++ (List.range n).map loc := fun m hm => List.mem_append.mpr (.inr (List.mem_map.mpr ⟨m, List.mem_range.mpr hm, rfl⟩))
  constructor
  case sub => exact fun b hb => List.mem_append.mpr (.inl (W.sub b hb))
  case frame =>
    intro j h h' ⟨a1, a2⟩ kept
    refine ⟨W.frame j h h' a1 fun b hb => kept b (List.mem_append.mpr (.inl hb)), fun m hm => ?_⟩
    obtain ⟨o, e, r⟩ := a2 m hm
    exact ⟨o, kept _ (inFoot m hm) o e, r⟩
  case item =>
    intro j s Q E hj ⟨a1, a2⟩ fin
    refine W.item j s Q E hj a1 fun v h' tk hv a1' kept => ?_
    have still : ∀ m, m < n → h'.IsTuple (loc m) (held m) := fun m hm => by
      obtain ⟨o, e, r⟩ := a2 m hm
      exact ⟨o, kept _ o (fun z => apt m hm (List.mem_singleton.mp z)) e, r⟩
    rw [isT j v hj hv]
    exact fin (loc j) (held j) h' tk rfl (still j hj) ⟨⟨hj, rfl⟩, a1', still⟩ kept
  case go =>
    intro es k pos j T s Q E hm fin
    exact letGo es k pos (j + 1) T s Q E hm.2.1 (fin s.heap hm.2 fun _ _ _ e => e)
  case apart =>
    intro j T h hm z
    rw [hm.1.2] at z
    exact apt j hm.1.1 (List.mem_singleton.mp z)
  case done => exact fun s Q E a fin => W.done s Q E a.1 fin
  case self => exact fun j s Q E a fin => W.self j s Q E a.1 fin

/-- the values vs are tuples that hold the pairs ps -/
def Prs (H : Hp) (vs : List V) (ps : List (Int × Int)) : Prop := vs.length = ps.length ∧ ∀ (i : Nat) p, ps[i]? = some p → ∃ a, vs[i]? = some (.ref a) ∧ H a = some (.tup [.int p.1, .int p.2])

/-- what is asked of the expression's own scope: the two names are its locals, its captured names are the def's -/
def OwnScope (env : Env) (sc : Scope) (xa xb : Str) : Prop :=
  (sc.kind = .function ∧ sc.isCoroutine = false ∧ xa ≠ xb) ∧ (sc.names.lookup (".0" : Str) = some .local ∧ sc.names.lookup xa = some .local ∧ sc.names.lookup xb = some .local) ∧
  (∀ y ∈ sc.names, y.2 ≠ NameKind.cell) ∧ ∀ y ∈ sc.names, y.2 = NameKind.free → ∃ c, env.cells.lookup y.1 = some c

section
variable {X : Cx} {s : Shared} {H : Hp} {σ : L2.St} {pins : List (Addr × Obj)}
/-- a tracked pair in the machine's heap -/
theorem pair_in {T : Addr} {p : Int × Int} (I : Inv X pins σ H s) (e : H T = some (.tup [.int p.1, .int p.2])) : ∃ ta tb, s.heap.IsTuple T #[.int p.1 ta, .int p.2 tb] := by
  obtain ⟨_, its, r, t⟩ := I.hok T _ e
  cases r with
  | cons q1 r =>
    cases r with
    | cons q2 r =>
      cases r
      obtain ⟨ta, rfl⟩ := q1
      obtain ⟨tb, rfl⟩ := q2
      exact ⟨ta, tb, t⟩
/-- the pairs by place: where they stand and what they hold -/
theorem pairs_in {vs : List V} {ps : List (Int × Int)} {its : List Value} (I : Inv X pins σ H s) (hp : Prs H vs ps) (r : Vals vs its) :
    ∃ (loc : Nat → Addr) (held : Nat → Array Value), ∀ j, j < ps.length → its[j]? = some (.ref (loc j)) ∧ s.heap.IsTuple (loc j) (held j) ∧ ∃ p ta tb, ps[j]? = some p ∧ held j = #[.int p.1 ta, .int p.2 tb] := by
  have one : ∀ j, ∃ (T : Addr) (xs : Array Value), j < ps.length → its[j]? = some (.ref T) ∧ s.heap.IsTuple T xs ∧ ∃ p ta tb, ps[j]? = some p ∧ xs = #[.int p.1 ta, .int p.2 tb] := fun j => by
    by_cases hj : j < ps.length
    · obtain ⟨T, e1, e2⟩ := hp.2 j ps[j] (List.getElem?_eq_getElem hj)
      obtain ⟨u, eu, ru⟩ := r.get e1
      cases ru
      obtain ⟨ta, tb, t⟩ := pair_in I e2
      exact ⟨T, _, fun _ => ⟨eu, t, ps[j], ta, tb, List.getElem?_eq_getElem hj, rfl⟩⟩
    · exact ⟨0, #[], fun z => absurd z hj⟩
  exact ⟨fun j => (one j).choose, fun j => (one j).choose_spec.choose, fun j hj => (one j).choose_spec.choose_spec hj⟩

/-- what a walk over the pairs is, begun at the new iterator that o is -/
def Begun (X : Cx) (s : Shared) (P : Addr) (ps : List (Int × Int)) (o : Obj) : Prop :=
  ∃ (foot : List Addr) (Hold : Nat → Array Value → Prop) (At : Nat → Heap → Prop) (Mid : Nat → Addr → Heap → Prop),
    (∀ A' : Around, A'.handled = none → WalksU X.prog X.w A' s.heap.objs.size foot [s.heap.objs.size] ps.length (fun j xs => j < ps.length ∧ Hold j xs) At Mid) ∧
    (∀ j xs, j < ps.length → Hold j xs → ∃ p ta tb, ps[j]? = some p ∧ xs = #[.int p.1 ta, .int p.2 tb]) ∧ At 0 (s.heap.push o) ∧ ∀ b ∈ foot, b < s.heap.objs.size + 1 ∧ b ≠ P
theorem begin_pairs {a P : Addr} {vs : List V} {ps : List (Int × Int)} {tb : Array Value} {Q' : Value → Shared → Prop} (I : Inv X pins σ H s) (hS : SqL X.K H a vs ∨ SqT X.K H a vs) (hp : Prs H vs ps) (hP : H P = some (.tbl tb))
    (fin : ∀ o, Begun X s P ps o → Q' (.ref s.heap.objs.size) { s with heap := s.heap.push o }) : wpAny (model X.prog X.w) X.A (pyIter (.ref a)) Q' X.xe s := by
  have hPo : s.heap.get? P = some { cls := .none, data := .fields tb } := I.hok P _ hP
  have notP : ∀ (b : Addr) (o : Obj) (xs : Array Value) (n : Nat), s.heap.get? b = some o → o.data = .seq xs n → b ≠ P := fun b o xs n e d z => by
    rw [z, hPo] at e
    rw [← Option.some.inj e] at d
    cases d
  have newP : s.heap.objs.size ≠ P := fun z => Nat.lt_irrefl _ (Nat.lt_of_lt_of_eq (Heap.lt_size hPo) z)
  -- from a walk over the items to the pairs
  have mk : ∀ (its : List Value) (o : Obj) (At : Nat → Heap → Prop), Vals vs its → a < s.heap.objs.size → a ≠ P → At 0 (s.heap.push o) →
      (∀ A' : Around, A'.handled = none → Walks X.prog X.w A' s.heap.objs.size [s.heap.objs.size, a] [s.heap.objs.size] its.toArray.size (fun i v => its.toArray[i]? = some v) At) →
      (∀ (A' : Around) (es : List Expr) (k : Nat) (pos : Pos) (j : Nat) (T : Addr) (s' : Shared) (Q : Unit → Shared → Prop) (E : Value → Shared → Prop), At j s'.heap → Q () s' → wpAny (model X.prog X.w) A' (letOwnedTupleGo (.Tuple es k pos) (.ref s.heap.objs.size) (.ref T)) Q E s') →
      Begun X s P ps o := by
    intro its o At r ha haP a0 W go
    obtain ⟨loc, held, hl⟩ := pairs_in I hp r
    have ln : its.toArray.size = ps.length := by rw [List.size_toArray, ← r.length, hp.1]
    have below : ∀ m, m < ps.length → loc m < s.heap.objs.size ∧ loc m ≠ P := fun m hm => by
      obtain ⟨_, ⟨ob, e, _, n, d⟩, _⟩ := hl m hm
      exact ⟨Heap.lt_size e, notP _ _ _ _ e d⟩
    refine ⟨_, _, _, _, fun A' hA => (asTuples (ln ▸ W A' hA) loc held (fun j v hj e => ?_) (fun j hj => Nat.ne_of_lt (below j hj).1) (fun es k pos j T s' Q E => go A' es k pos j T s' Q E)).bound, fun j xs hj e => ?_, ⟨a0, fun m hm => ?_⟩, fun b hb => ?_⟩
    · have e2 : its[j]? = some v := by simpa using e
      rw [(hl j hj).1] at e2
      exact (Option.some.inj e2).symm
    · obtain ⟨_, _, p, ta, tb', e1, e2⟩ := hl j hj
      exact ⟨p, ta, tb', e1, (show xs = held j from e).trans e2⟩
    · obtain ⟨_, ⟨ob, e, rest⟩, _⟩ := hl m hm
      exact ⟨ob, Heap.get?_push_of_some _ e, rest⟩
    · rcases List.mem_append.mp hb with z | z
      · rcases List.mem_cons.mp z with e | e
        · rw [e]; exact ⟨Nat.lt_succ_self _, newP⟩
        · rw [List.mem_singleton.mp e]; exact ⟨Nat.lt_succ_of_lt ha, haP⟩
      · obtain ⟨m, hm, e⟩ := List.mem_map.mp z
        obtain ⟨h1, h2⟩ := below m (List.mem_range.mp hm)
        rw [← e]; exact ⟨Nat.lt_succ_of_lt h1, h2⟩
  rcases hS with hS | hS
  · obtain ⟨its, r, hl, _⟩ := I.list hS
    obtain ⟨o, e, c, n, d⟩ := hl.isList
    refine wpAny_pyIter_list hl.isList (fin _ (mk its _ _ r (Heap.lt_size e) (notP _ _ _ _ e d) ⟨⟨_, Heap.get?_push_size _ rfl, rfl, rfl⟩, ⟨o, Heap.get?_push_of_some _ e, c, n, d⟩⟩ (fun A' hA => Walks.list hA _ a (Nat.ne_of_lt (Heap.lt_size e)) its.toArray) ?_))
    exact fun A' es k pos j T s' Q E at_ q => wpAny_letOwnedTupleGo_listiter at_.1 q
  · obtain ⟨its, r, ⟨o, e, c, n, d⟩, _⟩ := I.tuple hS
    refine wpAny_pyIter_tuple (items := its.toArray) ⟨o, e, c, n, d⟩ (fin _ (mk its _ _ r (Heap.lt_size e) (notP _ _ _ _ e d) ⟨⟨_, Heap.get?_push_size _ rfl, rfl, rfl⟩, ⟨o, Heap.get?_push_of_some _ e, c, n, d⟩⟩ (fun A' hA => Walks.tuple hA _ a (Nat.ne_of_lt (Heap.lt_size e)) its.toArray) ?_))
    exact fun A' es k pos j T s' Q E at_ q => letGo_tupleiter at_.1 q

/-- the expression's code object is made, or found: the table may grow, all else stands -/
theorem code_there {c P : Addr} {gpos : Pos} {qual : Str} {sc : Scope} {tb : Array Value} {Q' : Value → Shared → Prop} {E : Value → Shared → Prop} (hcode : X.env.code = .ref c) (C : PySem.W.CodeHd s.heap c P) (hP : s.heap.get? P = some { cls := .none, data := .fields tb }) (ok : TriplesOk tb.toList)
    (fin : ∀ (code : Value) (h' : Heap) (tk : Nat) (more : Array Value), Heap.ExtBut P s.heap h' → s.heap.objs.size ≤ h'.objs.size → h'.get? P = some { cls := .none, data := .fields (tb ++ more) } → TriplesOk (tb ++ more).toList → Q' code { s with heap := h', toks := tk }) :
    wpAny (model X.prog X.w) X.A (genexprCode X.env gpos qual sc) Q' E s := by
  cases found : codeAmong gpos tb.toList with
  | some old =>
    refine wpAny_genexprCode_hit hcode (C.code hP ok) found ?_
    have e : tb ++ #[] = tb := by simp
    exact fin old s.heap s.toks #[] (Heap.ExtBut.refl _ _) (Nat.le_refl _) (by rw [e]; exact hP) (by rw [e]; exact ok)
  | none =>
    refine wpAny_genexprCodeX hcode (C.code hP ok) (C.tab hP) found fun c' h' tk ext le lt isC _ tab _ => ?_
    obtain ⟨_, _, _, _, _, _, _, _, _, _, _, _, _, _, _, _, _, _, _, okT, _⟩ := isC
    exact fin _ h' tk _ ext (Nat.le_trans le (Nat.le_of_lt lt)) tab.2 okT

/-- the element at a pair of whole numbers: what it gives, wherever the expression runs later -/
def EltAt (X : Cx) (s₁ : Shared) (P : Addr) (sc : Scope) (xa xb : Str) (elt : Expr) (Gives : Int → Int → Value → Prop) : Prop :=
  ∀ (L : Addr) (code : Value) (A' : Around) (E' : Value → Shared → Prop) (a b : Int) (ta tb : Tok) (s₂ : Shared) (m : Str → Option Value), A'.handled = none →
    (∀ x o, x ≠ P → s₁.heap.get? x = some o → s₂.heap.get? x = some o) → s₂.heap.Ns L m → m xa = some (.int a ta) → m xb = some (.int b tb) →
    wpAny (model X.prog X.w) A' (eval elt (genEnv sc (cloFrom X.env.cells sc.names []) L code builtinsNs X.env)) (fun y s₃ => Gives a b y ∧ Keeps s₂ s₃) E' s₂

/-- the generator at g, in the state s₅, before its first item; H₁: what was held when it was made -/
def Fresh (X : Cx) (pins : List (Addr × Obj)) (σ : L2.St) (H₁ : Hp) (P : Addr) (ps : List (Int × Int)) (Gives : Int → Int → Value → Prop) (g : Addr) (s₅ : Shared) : Prop :=
  ∃ (foot writes : List Addr) (Gens : Array GenState → Array GenState → Prop) (Item : Nat → Value → Prop) (At : Nat → Shared → Prop),
    (WalksS X.prog X.w X.A.in1 g foot writes Gens ps.length Item At ∧ At 0 s₅ ∧ ∀ b ∈ foot, b < s₅.heap.objs.size) ∧
    (∀ j v, Item j v → ∃ p, ps[j]? = some p ∧ Gives p.1 p.2 v) ∧ ∀ s₆, Moved writes Gens s₅ s₆ → ∃ H₂, Tabbed P H₁ H₂ ∧ Inv X pins σ H₂ s₆

theorem gen_made {c P : Addr} {elt iter : Expr} {xa xb : Str} {pa pb pt gpos : Pos} {kt : Nat} {sc : Scope} {te : TE} {k : Nat} {Q' : Value → Shared → Prop} {Want : List (Int × Int) → Hp → Prop} {Gives : Int → Int → Value → Prop}
    (room : Room k X.A) (TB : TabB X.base X.mg c P) (hcode : X.env.code = .ref c) (own : OwnScope X.env sc xa xb) (walked : PE X iter te) (plain : ∀ v, genFold iter X.env v = pure v) (I : Inv X pins σ H s)
    (each : ∀ s₁ H₁, Inv X pins σ H₁ s₁ → TabG H₁ P → EltAt X s₁ P sc xa xb elt Gives)
    (h : te σ H fun v H₁ => ∃ (a : Addr) (vs : List V) (ps : List (Int × Int)), v = .ref a ∧ (SqL X.K H₁ a vs ∨ SqT X.K H₁ a vs) ∧ Prs H₁ vs ps ∧ TabG H₁ P ∧ Want ps H₁)
    (fin : ∀ ps H₁ g s₅, Want ps H₁ → Fresh X pins σ H₁ P ps Gives g s₅ → Q' (.ref g) s₅) :
    wpAny (model X.prog X.w) X.A (eval (.GeneratorExp elt [⟨.Tuple [.Name xa pa, .Name xb pb] kt pt, iter, [], 0⟩] sc gpos) X.env) Q' X.xe s := by
  obtain ⟨⟨o1, o2, o3⟩, ⟨o4, o5, o6⟩, o7, o8⟩ := own
  have deep : X.A.depth < recursionLimit := by have := room.dp; omega
  refine wpAny_GeneratorExp_walksQT room.hd o2 (closure_ok o8) o7 o4 o5 o6 o3 o1 deep (thn (walked.run pins s σ H _ I h) fun u s₁ had => ?_) plain
  obtain ⟨_, H₁, I₁, rel, a, vs, ps, rfl, hS, hp, ⟨tb, hP, ok⟩, want⟩ := had
  cases rel
  have tabAt : s₁.heap.get? P = some { cls := .none, data := .fields tb } := I₁.hok P _ hP
  refine begin_pairs I₁ hS hp hP fun o beg => ?_
  obtain ⟨foot, Hold, At, Mid, W, holds, at0, low⟩ := beg
  have statics : cStatics < s₁.heap.objs.size ∧ cStatics ≠ P := by
    obtain ⟨_, ns, _⟩ := I₁.nolimit
    refine ⟨ns.lt, fun z => ?_⟩
    obtain ⟨ob, _, _, e, d, _⟩ := ns
    rw [z, tabAt] at e
    rw [← Option.some.inj e] at d
    cases d
  have quiet : (s₁.heap.push o).NoLimit := I₁.nolimit.push o
  refine ⟨quiet, code_there hcode (TB.code.keeps fun b u e => Heap.get?_push_of_some _ (I₁.bk b u e)) (Heap.get?_push_of_some _ tabAt) ok fun code h₃ tk more ext le tab₃ ok₃ => ?_⟩
  rw [Heap.size_push] at le
  have stays : ∀ b u, b ≠ P → s₁.heap.get? b = some u → h₃.get? b = some u := fun b u hb e => ext b u hb (Heap.get?_push_of_some _ e)
  obtain ⟨bm, ob, f1, f2, f3, f4, f5, f6, f7, f8⟩ := TB.bm
  have globals : Heap.Ns h₃ X.env.globals X.mg := by
    rw [I₁.ok.glob]
    exact ((I₁.mod.glob.keeps I₁.bk).push o).extBut ext TB.gP
  refine wpAny_builtinsFor (m := X.mg) globals f1 f2 (stays bm ob f4 (I₁.bk bm ob f5)) f6 f7 f8 ?_
  have later : ∀ b u, s₁.heap.get? b = some u → b ∉ [h₃.objs.size, s₁.heap.objs.size] := fun b u e z => by
    have lt := Heap.lt_size e
    rcases List.mem_cons.mp z with z' | z'
    · exact Nat.lt_irrefl _ (Nat.lt_of_lt_of_le (z' ▸ lt) (Nat.le_of_succ_le le))
    · exact Nat.lt_irrefl _ (List.mem_singleton.mp z' ▸ lt)
  refine ⟨_, _, _, _, _, _, _, fun _ => true, fun i y => i < ps.length → ∃ p, ps[i]? = some p ∧ Gives p.1 p.2 y, rfl, W, fun i xs hx => ?_, ?_, fun b hb => Nat.lt_of_lt_of_le (low b hb).1 le, quiet.extBut ext statics.2, fun z => Nat.ne_of_lt statics.1 (List.mem_singleton.mp z), fun ref kept => ⟨?_, ?_⟩, ?_⟩
  · obtain ⟨p, ta, tb', _, e⟩ := holds i xs hx.1 hx.2
    exact ⟨_, _, e⟩
  · exact (W X.A room.hd).frame _ _ _ at0 fun b hb u e => ext b u (low b hb).2 e
  · intro A' E' i va vb s₂ m _ _ _ _ _ _
    rw [List.forIn_nil]
    exact wpAny_pure ⟨rfl, _, _, rfl, fun _ _ e => e⟩
  · intro A' E' i va vb s₂ m calm hx _ ns ea eb still
    obtain ⟨p, ta, tb', ep, e⟩ := holds i _ hx.1 hx.2
    have e1 : va = .int p.1 ta := by have z := congrArg (·[0]?) e; simpa using z
    have e2 : vb = .int p.2 tb' := by have z := congrArg (·[1]?) e; simpa using z
    subst e1 e2
    refine wpAny_mono (each s₁ H₁ I₁ ⟨tb, hP, ok⟩ _ code A' E' p.1 p.2 ta tb' s₂ m calm (fun b u hb q => ?_) ns ea eb) (fun y s₃ r => ⟨fun _ => ⟨p, ep, r.1⟩, r.2⟩) fun _ _ q => q
    have q3 := stays b u hb q
    exact still b (List.mem_range.mpr (Heap.lt_size q3)) (fun z => later b u q (List.mem_cons_of_mem _ z)) u (kept b u q3)
  · intro g h₅ tk₅ gs bare above size kept W₅ at₅
    rw [GxR.passing_true, List.length_range] at W₅
    have above' : h₃.objs.size < g := above
    have size' : h₅.objs.size = g + 1 := size
    refine fin ps H₁ g _ want ⟨_, _, _, _, _, ⟨W₅.in4_1, at₅, fun b hb => ?_⟩, fun j v it => ?_, fun s₆ mv => ?_⟩
    · show b < h₅.objs.size
      rw [size']
      rcases List.mem_cons.mp hb with eg | e
      · rw [eg]; exact Nat.lt_succ_self g
      · refine Nat.lt_succ_of_le (Nat.le_trans ?_ (Nat.le_of_lt above'))
        rcases List.mem_cons.mp e with e' | e'
        · rw [e']; exact Nat.le_refl _
        · exact Nat.le_of_lt (List.mem_range.mp e')
    · obtain ⟨i, ei, hg⟩ := it
      have lt : j < ps.length := by
        have z := (List.getElem?_eq_some_iff.mp ei).1
        rwa [List.length_range] at z
      rw [List.getElem?_range lt] at ei
      cases ei
      exact hg lt
    · have all : ∀ b u, b ≠ P → s₁.heap.get? b = some u → s₆.heap.get? b = some u := fun b u hb e => mv.heap b u (later b u e) (kept b u (stays b u hb e))
      have tab₆ := mv.heap P _ (later P _ tabAt) (kept P _ tab₃)
      have J := inv_tab (more := more) (d' := s₆.drawn) (t' := s₆.toks) I₁ hP all tab₆ (AllBare.movedS (I₁.bare.push bare) mv)
      rw [sh_eta s₁ s₆ mv.os] at J
      exact ⟨_, ⟨⟨tb ++ more, upd_same, ok₃⟩, fun b hb => upd_ne hb⟩, J⟩

/-- the sum of g over the pairs -/
def sumP (g : Int → Int → Int) (ps : List (Int × Int)) : Int := (ps.map fun p => g p.1 p.2).sum
theorem preSum_is (g : Int → Int → Int) (ps : List (Int × Int)) (val : Nat → Int) (h : ∀ i p, ps[i]? = some p → val i = g p.1 p.2) : ∀ n, n ≤ ps.length → preSum val n = sumP g (ps.take n)
  | 0, _ => rfl
  | n + 1, hn => by
    have e : ps[n]? = some ps[n] := List.getElem?_eq_getElem hn
    show preSum val n + val n = _
    rw [preSum_is g ps val h n (by omega), h n _ e]
    unfold sumP
    rw [List.take_add_one, e, List.map_append, List.sum_append]
    show _ = _ + (g ps[n].1 ps[n].2 + 0)
    rw [Int.add_zero]
/-- what the reading of sum(..), any(..) over pairs asks: what is captured (Cap), the pairs, the table; then the answer -/
def tOver {α : Type} (K : PySem.W.Frag) (P : Addr) (Cap : L2.St → α → Prop) (ans : α → List (Int × Int) → V) (te : TE) : TE := fun σ H Q => ∃ x : α, Cap σ x ∧ te σ H fun v H₁ => ∃ (a : Addr) (vs : List V) (ps : List (Int × Int)), v = .ref a ∧ (SqL K H₁ a vs ∨ SqT K H₁ a vs) ∧ Prs H₁ vs ps ∧ TabG H₁ P ∧
  ∀ H₂, Tabbed P H₁ H₂ → Q (ans x ps) H₂
/-- how a built-in takes a generator over pairs -/
def Takes2 (X : Cx) (name : String) (Gives : Int → Int → Value → Prop) (ans : List (Int × Int) → V) : Prop :=
  ∀ (pins : List (Addr × Obj)) (σ : L2.St) (P : Addr) (ps : List (Int × Int)) (H₁ : Hp) (gen : Addr) (s₅ : Shared) (Q : VK), Fresh X pins σ H₁ P ps Gives gen s₅ → (∀ H₂, Tabbed P H₁ H₂ → Q (ans ps) H₂) →
    wpAny (model X.prog X.w) X.A (call (.builtin name) [.ref gen]) (EP X pins σ Q) X.xe s₅
theorem pe_over {α : Type} {name : String} {x : Str} {c P : Addr} {elt iter : Expr} {xa xb : Str} {pa pb pt p pos gpos : Pos} {kt : Nat} {sc : Scope} {Cap : L2.St → α → Prop} {Gives : α → Int → Int → Value → Prop} {ans : α → List (Int × Int) → V} {te : TE} {k : Nat} (takes : ∀ y, Takes2 X name (Gives y) (ans y))
    (room : Room k X.A) (glob : Gl X x) (free : X.mg x = none) (bltn : bootBuiltins x = some (.builtin name)) (TB : TabB X.base X.mg c P) (hcode : X.env.code = .ref c) (own : OwnScope X.env sc xa xb) (walked : PE X iter te)
    (each : ∀ pins σ s₁ H₁ y, Inv X pins σ H₁ s₁ → TabG H₁ P → Cap σ y → EltAt X s₁ P sc xa xb elt (Gives y)) (plain : ∀ v, genFold iter X.env v = pure v) (n1 : x ≠ "__name__" := by decide) (n2 : (x == ("__debug__" : Str)) = false := by decide)
    (one : starEach [.GeneratorExp elt [⟨.Tuple [.Name xa pa, .Name xb pb] kt pt, iter, [], 0⟩] sc gpos] X.env = [(false, eval (.GeneratorExp elt [⟨.Tuple [.Name xa pa, .Name xb pb] kt pt, iter, [], 0⟩] sc gpos) X.env)] := by rfl) :
    PE X (.Call (.Name x p) [.GeneratorExp elt [⟨.Tuple [.Name xa pa, .Name xb pb] kt pt, iter, [], 0⟩] sc gpos] [] pos) (tOver X.K P Cap ans te) := by
  constructor
  intro pins s σ H Q I h
  obtain ⟨y, cap, h⟩ := h
  refine wpAny_Call_Name_kw (ld_blt I glob free bltn (callWith_builtin1 ?_ one (by rfl)) n1 n2)
  rw [one]
  refine Calls.spliced_cons (gen_made (Want := fun ps H₁ => ∀ H₂, Tabbed P H₁ H₂ → Q (ans y ps) H₂) (Gives := Gives y) room TB hcode own walked plain I (fun s₁ H₁ J g => each pins σ s₁ H₁ y J g cap) h fun ps H₁ gen s₅ want fresh => Calls.spliced_nil ?_)
  exact takes y pins σ P ps H₁ gen s₅ Q fresh want
theorem takes_sum (g : Int → Int → Int) : Takes2 X "sum" (fun a b y => ∃ t, y = .int (g a b) t) (fun ps => .int (sumP g ps)) := by
  intro pins σ P ps H₁ gen s₅ Q fresh want
  obtain ⟨foot, writes, Gens, Item, At, ⟨W, a0, low⟩, items, behind⟩ := fresh
  let val : Nat → Int := fun i => (ps[i]?.map fun p => g p.1 p.2).getD 0
  have hv : ∀ i p, ps[i]? = some p → val i = g p.1 p.2 := fun i p e => by show (ps[i]?.map _).getD 0 = _; rw [e]; rfl
  refine call_sum_walkAnyS (W.self 0 _ _ _ a0 ⟨gen, foot, writes, Gens, ps.length, Item, At, val, rfl, W, a0, low, fun i v it => ?_, fun s₆ t mv => ?_⟩)
  · obtain ⟨p, e, t, ev⟩ := items i v it
    exact ⟨t, by rw [hv i p e]; exact ev⟩
  · obtain ⟨H₂, tabbed, J⟩ := behind s₆ mv
    refine ⟨.int (preSum val ps.length), H₂, J, ⟨t, rfl⟩, ?_⟩
    rw [preSum_is g ps val hv ps.length (Nat.le_refl _), List.take_length]
    exact want H₂ tabbed
def anyP (g : Int → Int → Bool) (ps : List (Int × Int)) : Bool := ps.any fun p => g p.1 p.2
theorem any_is {α : Type} (ps : List α) (f : α → Bool) (tr : Nat → Bool) (h : ∀ i p, ps[i]? = some p → tr i = f p) : (List.range ps.length).any tr = ps.any f := by
  rw [Bool.eq_iff_iff, List.any_eq_true (l := List.range _), List.any_eq_true]
  constructor
  · rintro ⟨i, hi, e⟩
    have lt := List.mem_range.mp hi
    exact ⟨ps[i], List.getElem_mem lt, by rw [← h i _ (List.getElem?_eq_getElem lt)]; exact e⟩
  · rintro ⟨p, hp, e⟩
    obtain ⟨i, lt, rfl⟩ := List.getElem_of_mem hp
    exact ⟨i, List.mem_range.mpr lt, by rw [h i _ (List.getElem?_eq_getElem lt)]; exact e⟩
theorem takes_any (g : Int → Int → Bool) : Takes2 X "any" (fun a b y => y = .bool (g a b)) (fun ps => .bl (anyP g ps)) := by
  intro pins σ P ps H₁ gen s₅ Q fresh want
  obtain ⟨foot, writes, Gens, Item, At, ⟨W, a0, low⟩, items, behind⟩ := fresh
  let tr : Nat → Bool := fun i => (ps[i]?.map fun p => g p.1 p.2).getD false
  have ht : ∀ i p, ps[i]? = some p → tr i = g p.1 p.2 := fun i p e => by show (ps[i]?.map _).getD false = _; rw [e]; rfl
  refine call_any_walkS (W.self 0 _ _ _ a0 ⟨gen, foot, writes, Gens, ps.length, Item, At, tr, rfl, W, a0, fun i v s' Q' E' it q => ?_, fun s₆ mv => ?_⟩)
  · obtain ⟨p, e, rfl⟩ := items i v it
    rw [ht i p e] at q
    exact wpAny_truthy_bool q
  · obtain ⟨H₂, tabbed, J⟩ := behind s₆ mv
    refine ⟨.bl _, H₂, J, rfl, ?_⟩
    rw [any_is ps (fun p => g p.1 p.2) tr ht]
    exact want H₂ tabbed
/-- a whole number that the expression captures, as its cell has it -/
theorem captured {i : Nat} {y : Str} {n : Int} {P : Addr} (I : Inv X pins σ H s) (hN : X.N[i]? = some y) (hk : X.env.scope.names.lookup y = some .cell) (hv : σ[i]? = some (some (.int n))) (g : TabG H P) :
    ∃ c t, X.env.cells.lookup y = some c ∧ s.heap.IsCell c (some (.int n t)) ∧ c ≠ P := by
  obtain ⟨tb, hP, _⟩ := g
  obtain ⟨m, _, look⟩ := I.loc
  obtain ⟨u, ⟨t, rfl⟩, l⟩ := look i y _ hN hv (.inr (.inl hk))
  rcases l with ⟨z, _⟩ | ⟨_, c, e, o, ho, hd⟩
  · rw [show X.env.kindOf y = some .cell from hk] at z
    cases z
  · refine ⟨c, t, e, ⟨o, ho, hd⟩, fun z => ?_⟩
    rw [z, I.hok P _ hP] at ho
    rw [← Option.some.inj ho] at hd
    cases hd
/-- the names of the module and the built-in ones, where the expression runs -/
theorem names_in {P : Addr} {s₂ : Shared} (I : Inv X pins σ H s) (g : TabG H P) (gP : mainGlobals ≠ P) (kept : ∀ x o, x ≠ P → s.heap.get? x = some o → s₂.heap.get? x = some o) :
    s₂.heap.Ns mainGlobals X.mg ∧ ∃ mb, s₂.heap.Ns builtinsNs mb ∧ ∀ x : Str, x ≠ "__name__" → mb x = bootBuiltins x := by
  obtain ⟨tb, hP, _⟩ := g
  obtain ⟨mb, b1, b2⟩ := I.mod.blt
  have at_ : ∀ b m, b ≠ P → s.heap.Ns b m → s₂.heap.Ns b m := fun b m hb ⟨o, es, ep, ho, r⟩ => ⟨o, es, ep, kept b o hb ho, r⟩
  refine ⟨at_ _ _ gP (I.mod.glob.keeps I.bk), mb, at_ _ _ (fun z => ?_) (b1.keeps I.bk), b2⟩
  obtain ⟨o, es, ep, ho, hd, _⟩ := b1.keeps I.bk
  rw [z, I.hok P _ hP] at ho
  rw [← Option.some.inj ho] at hd
  cases hd
end
end GP

namespace TK
open PySem PySem.Spec PyProof.Rows L2 GP
def topS (i : Nat) : Stmt := PySem.Challenge.pw_tinrecall_k01_sets_of_pairs.main.body.getD i (.Pass ⟨0, 0, 0, 0⟩)

/-- the draws' state: its dict at d, its cells at c -/
structure StAt (H : Hp) (d c : Addr) (t : Int) : Prop where
  dict : H d = some (.dK [(.inr "cells", .ref c), (.inr "turn", .int t)])
  cells : ∃ cs : List Int, H c = some (.lst (cs.map V.int)) ∧ cs ≠ [] ∧ cs.length ≤ 63
  pos : 0 ≤ t
theorem StAt.ne {H : Hp} {d c : Addr} {t : Int} (h : StAt H d c t) : d ≠ c := by
  obtain ⟨cs, hc, _⟩ := h.cells
  exact ne_of h.dict hc (by intro z; cases z)
/-- all but the state is as it was -/
def Kp (d c : Addr) (H H' : Hp) : Prop := ∀ b o, b ≠ d → b ≠ c → H b = some o → H' b = some o
theorem Kp.refl (d c : Addr) (H : Hp) : Kp d c H H := fun _ _ _ _ h => h
theorem Kp.trans {d c : Addr} {H H1 H2 : Hp} (a : Kp d c H H1) (b : Kp d c H1 H2) : Kp d c H H2 := fun x o h1 h2 h => b x o h1 h2 (a x o h1 h2 h)

theorem ixN_of {n j : Nat} (h : j < n) : ixN n (j : Int) = some j := by
  unfold ixN
  rw [if_pos (Int.natCast_nonneg j), if_pos (by omega), Int.toNat_natCast]
def spTake : Sp := fun vs H Q _ => ∃ (d c : Addr) (t m : Int), vs = [.ref d, .int m] ∧ StAt H d c t ∧ t < 2 ^ 60 ∧ 0 < m ∧ m.natAbs < 2 ^ 200 ∧
  ∀ r H', 0 ≤ r → r < m → StAt H' d c (t + 1) → Kp d c H H' → Q (.int r) H'

abbrev sTake : Stmt := topS 4
theorem scTake : FnScope ["_law_state", "_law_many", "_law_turn", "_law_place", "_law_cell", "_law_digit", "_law_mixed"] ["_law_state", "_law_many"] (defScope sTake) := ⟨rfl, rfl, rfl, by decide +kernel, rfl, by decide +kernel, by decide +kernel⟩
section
variable {K : PySem.W.Frag} {mg : Str → Option Value} {P : Program} {w : World} {base : Heap}
theorem ok_take {f : Addr} {fd : FuncData} {k : Nat} (F : Fun K "_law_take" "_law_take" sTake f fd) (ml : mg "len" = none) (md : mg "divmod" = none) : FnOk P w K mg base CX0 (k + 1) f fd ["_law_state", "_law_many"] spTake := by
  refine F.ok scTake (fun vs H Q E h => ?_) (fun cdv A outer s H vs Q E hr h => ?_)
  · obtain ⟨d, c, t, m, rfl, _⟩ := h
    rfl
  · obtain ⟨d, c, t, m, rfl, hS, ht, hm, hm2, q⟩ := h
    refine ⟨_, pss_cons (ps_set (i := 2) scTake.nd rfl (.inl rfl) (pe_op op_add (pe_dget (hu_of hr) (pv 0) pe_str (fun _ _ => rfl)) pe_int))
      (pss_cons (ps_dput (hu_of hr) (pv 0) pe_str (pv 2) rfl)
      (pss_cons (ps_set (i := 3) scTake.nd rfl (.inl rfl) (pe_op op_mod (pv 2) (pe_callB call_len_seq (by rfl) ml PySem.boot_len (pa_cons (pe_dget (hu_of hr) (pv 0) pe_str (fun _ _ => rfl)) pa_nil))))
      (pss_cons (ps_set (i := 4) scTake.nd rfl (.inl rfl) (pe_ix ix_list (pe_dget (hu_of hr) (pv 0) pe_str (fun _ _ => rfl)) (pv 3) (fun _ _ => rfl)))
      (pss_cons (ps_if (pt_cmpR op_ge (pv 4) (pe_op op_pow pe_int pe_int) (nomark _))
        (pss_cons (ps_asg (pe_callB call_divmodW (by rfl) md (by decide +kernel) (pa_cons (pv 4) (pa_cons (pv 1) pa_nil)))
            (pg_tup rfl (pgs_cons (pg_sub (pe_dget (hu_of hr) (pv 0) pe_str (fun _ _ => rfl)) (pv 3) set_list) (pgs_cons (pg_name (i := 5) scTake.nd rfl (.inl rfl)) pgs_nil))))
          (pss_one (ps_ret (pv 5)))) pss_nil)
      (pss_cons (ps_set (i := 6) scTake.nd rfl (.inl rfl) (pe_op op_mod (pe_op op_mul (pe_op op_add (pe_op op_add (pe_op op_mod (pv 4) pe_int) (pe_op op_mul (pe_op op_mul (pv 2) (pv 2)) pe_int)) pe_int) pe_int) pe_int))
      (pss_cons (ps_set (i := 6) scTake.nd rfl (.inl rfl) (pe_op op_mod (pe_op op_mul (pv 6) (pv 6)) pe_int))
      (pss_one (ps_ret (pe_op op_mod (pe_op op_fdiv (pe_op op_mod (pe_op op_mul (pe_op op_add (pv 6) (pe_op op_mul (pv 2) pe_int)) pe_int) pe_int) pe_int) (pv 1)))))))))), ?_⟩
    obtain ⟨hd, ⟨cs, hc, hne, hlen⟩, hpos⟩ := hS
    have ndc : d ≠ c := ne_of hd hc (by intro z; cases z)
    -- turn = state['turn'] + 1
    refine ⟨.ref d, rfl, d, .int t, rfl, DGet.k (k := Sum.inr "turn") hd, t, 1, rfl, rfl, ?_⟩
    -- state['turn'] = turn
    refine ⟨_, rfl, .ref d, rfl, d, _, rfl, DPut.k (k := Sum.inr "turn") hd (by show 2 < sizeLine; decide), ?_⟩
    have hput : putK [((.inr "cells" : Key), V.ref c), (.inr "turn", .int t)] (.inr "turn") (.int (t + 1)) = [(.inr "cells", .ref c), (.inr "turn", .int (t + 1))] := rfl
    rw [show (.int (t + 1) : V) = V.int (t + 1) from rfl] at *
    rw [hput]
    generalize hH1 : upd H d (.dK [((.inr "cells" : Key), V.ref c), (.inr "turn", .int (t + 1))]) = H1
    have hd1 : H1 d = some (.dK [(.inr "cells", .ref c), (.inr "turn", .int (t + 1))]) := by rw [← hH1]; exact upd_same
    have hc1 : H1 c = some (.lst (cs.map V.int)) := by rw [← hH1, upd_ne ndc.symm]; exact hc
    have k1 : Kp d c H H1 := fun b o h1 h2 e => by rw [← hH1, upd_ne h1]; exact e
    have hlp : 0 < cs.length := List.length_pos_iff.mpr hne
    -- place = turn % len(state['cells'])
    refine ⟨_, rfl, .ref d, rfl, d, .ref c, rfl, DGet.k (k := Sum.inr "cells") hd1, c, _, rfl, .inl (SqL.of hc1), _, _, rfl, rfl, (by show (0 : Int) < ((cs.map V.int).length : Int); rw [List.length_map]; omega), ?_⟩
    dsimp only
    rw [List.length_map]
    have hj0 : 0 ≤ (t + 1) % (cs.length : Int) := Int.emod_nonneg _ (by omega)
    have hj1 : (t + 1) % (cs.length : Int) < cs.length := Int.emod_lt_of_pos _ (by omega)
    obtain ⟨j, hj⟩ := Int.eq_ofNat_of_zero_le hj0
    have hjl : j < cs.length := by omega
    rw [hj]
    have gj : (cs.map V.int)[j]? = some (.int cs[j]) := by rw [List.getElem?_map, List.getElem?_eq_getElem hjl]; rfl
    -- cell = state['cells'][place]
    refine ⟨.ref d, rfl, d, .ref c, rfl, DGet.k (k := Sum.inr "cells") hd1, _, rfl, c, _, _, .int cs[j], rfl, rfl, SqL.of hc1, atI_nat gj, ?_⟩
    generalize cs[j] = x
    -- if cell >= 10 ** 18
    refine ⟨_, rfl, 10, 18, rfl, rfl, ⟨by decide, by decide, by decide⟩, _, _, rfl, rfl, _, rfl, ite2 (fun e => ?_) (fun e => ?_)⟩
    · have hdp : CDivP x m := ⟨hm, PyProof.noPylong_of_log2 (Nat.lt_trans (PySem.Flt.log2_lt_of (by decide) hm2) (by decide))⟩
      refine ⟨_, rfl, _, rfl, x, m, rfl, hdp, fun p hp => ?_⟩
      have npd : d ≠ p := ne_of_none hd1 hp
      have npc : c ≠ p := ne_of_none hc1 hp
      have hd2 : upd H1 p (.tup [.int (x / m), .int (x % m)]) d = some (.dK [(.inr "cells", .ref c), (.inr "turn", .int (t + 1))]) := by rw [upd_ne npd]; exact hd1
      have hc2 : upd H1 p (.tup [.int (x / m), .int (x % m)]) c = some (.lst (cs.map V.int)) := by rw [upd_ne npc]; exact hc1
      refine ⟨p, _, rfl, .inl (.inl upd_same), rfl, _, _, rfl, .ref d, rfl, d, .ref c, rfl, DGet.k (k := Sum.inr "cells") hd2, _, rfl, c, _, _, j, rfl, rfl, hc2, ixN_of (by rw [List.length_map]; exact hjl), _, _, rfl, rfl, ?_⟩
      refine ⟨_, rfl, ?_⟩
      refine q _ _ (Int.emod_nonneg _ (by omega)) (Int.emod_lt_of_pos _ hm) ⟨?_, ⟨cs.set j (x / m), ?_, ?_, ?_⟩, by omega⟩ ?_
      · rw [upd_ne ndc]; exact hd2
      · rw [upd_same, List.map_set]
      · intro z
        have z2 : (cs.set j (x / m)).length = 0 := by rw [z]; rfl
        rw [List.length_set] at z2
        omega
      · rw [List.length_set]; exact hlen
      · intro b o h1 h2 e
        rw [upd_ne h2, upd_ne (ne_of_none (k1 b o h1 h2 e) hp)]
        exact k1 b o h1 h2 e
    · have t1 : t + 1 < 2 ^ 61 := by omega
      -- mixed
      refine ⟨_, rfl, _, _, rfl, rfl, (show (0 : Int) < 2147483629 by decide), _, rfl, _, rfl, t + 1, t + 1, rfl, rfl, .inl ⟨by omega, by omega⟩, _, _, rfl, rfl, .inr ⟨by decide, by decide⟩, _, _, rfl, rfl, _, _, rfl, rfl, _, _, rfl, rfl, .inr ⟨by decide, by decide⟩, _, 2147483647, rfl, rfl, (show (0 : Int) < 2147483647 by decide), ?_⟩
      dsimp only
      generalize hy : ((x % 2147483629 + (t + 1) * (t + 1) * 7919 + 11) * 48271) = y
      have y0 : 0 ≤ y % 2147483647 := Int.emod_nonneg _ (by decide)
      have y1 : y % 2147483647 < 2147483647 := Int.emod_lt_of_pos _ (by decide)
      refine ⟨_, rfl, _, rfl, y % 2147483647, y % 2147483647, rfl, rfl, .inl ⟨by omega, by omega⟩, _, 2147483587, rfl, rfl, (show (0 : Int) < 2147483587 by decide), ?_⟩
      refine ⟨_, rfl, _, rfl, t + 1, 104729, rfl, rfl, .inr ⟨by decide, by decide⟩, _, _, rfl, rfl, _, _, rfl, rfl, .inr ⟨by decide, by decide⟩, _, 2147483629, rfl, rfl, (show (0 : Int) < 2147483629 by decide), _, 64, rfl, rfl, ⟨by decide, by decide⟩, _, rfl, _, m, rfl, rfl, hm, ?_⟩
      exact q _ _ (Int.emod_nonneg _ (by omega)) (Int.emod_lt_of_pos _ hm) ⟨hd1, ⟨cs, hc1, hne, hlen⟩, by omega⟩ k1
end

abbrev sBegin : Stmt := topS 3
theorem scBegin : FnScope ["_law_script", "_law_cells"] ["_law_script"] (defScope sBegin) := ⟨rfl, rfl, rfl, by decide +kernel, rfl, by decide +kernel, by decide +kernel⟩
theorem same_upd {H : Hp} {p : Addr} {o : HO} (h : H p = none) : Same H (upd H p o) := fun b x e => by
  rw [upd_ne (ne_of_none e h)]
  exact e
theorem cut_front (xs : List V) (m : Nat) : cutV xs none (some (m : Int)) = xs.take m := by
  unfold cutV
  rw [HT.sIx_none, HT.sIx_nat]
  show List.take (min m xs.length - 0) (xs.drop 0) = xs.take m
  rw [Nat.sub_zero, List.drop_zero]
  by_cases h : m ≤ xs.length
  · rw [Nat.min_eq_left h]
  · rw [Nat.min_eq_right (by omega), List.take_length, List.take_of_length_le (by omega)]
theorem dp_ints {K : PySem.W.Frag} {H : Hp} : ∀ ns : List Int, DpAll K H (ns.map V.int) (ns.map PyData.int)
  | [] => .nil
  | n :: r => .cons (.int n) (dp_ints r)
theorem lay_ints : ∀ ns : List Int, PyData.canLayAll0 (ns.map PyData.int) = true
  | [] => by simp only [List.map_nil, PyData.canLayAll0]
  | n :: r => by
    rw [List.map_cons, PyData.canLayAll0, lay_ints r]
    simp [PyData.canLay0]
theorem depth_ints : ∀ ns : List Int, PyData.depthAll (ns.map PyData.int) = 0
  | [] => by simp only [List.map_nil, PyData.depthAll]
  | n :: r => by
    rw [List.map_cons, PyData.depthAll, depth_ints r]
    simp [PyData.depth]
theorem shaped_ints (ns : List Int) : SeqAt.shaped (PyData.list (ns.map PyData.int)) = true := by
  unfold SeqAt.shaped
  rw [PyData.canLay0, lay_ints, PyData.depth, depth_ints]
  rfl
theorem eqv_nil (n : Int) (r : List Int) : PyData.eqv (PyData.list ((n :: r).map PyData.int)) (PyData.list []) = false := by
  simp [PyData.eqv, PyData.eqvAll]
theorem eqv_nil0 : PyData.eqv (PyData.list (([] : List Int).map PyData.int)) (PyData.list []) = true := by
  simp [PyData.eqv, PyData.eqvAll]
def spBegin (K : PySem.W.Frag) : Sp := fun vs H Q _ => ∃ (a : Addr) (ns : List Int), vs = [.ref a] ∧ SqL K H a (ns.map V.int) ∧ ns.length ≤ 63 ∧
  ∀ d c H', Same H H' → H d = none → H c = none → StAt H' d c 0 → Q (.ref d) H'
section
variable {K : PySem.W.Frag} {mg : Str → Option Value} {P : Program} {w : World} {base : Heap}
theorem ok_begin {f : Addr} {fd : FuncData} {k : Nat} (F : Fun K "_law_begin" "_law_begin" sBegin f fd) (ml : mg "list" = none) : FnOk P w K mg base CX0 (k + 1) f fd ["_law_script"] (spBegin K) := by
  refine F.ok scBegin (fun vs H Q E h => ?_) (fun cdv A outer s H vs Q E hr h => ?_)
  · obtain ⟨a, ns, rfl, _⟩ := h
    rfl
  · obtain ⟨a, ns, rfl, hS, hlen, q⟩ := h
    refine ⟨_, pss_cons (ps_set (i := 1) scBegin.nd rfl (.inl rfl) (pe_callTy call_list_of (by rfl) ml (by decide +kernel) (pa_cons (pe_slice sl_list (pv 0) po_none (po_some pe_int)) pa_nil)))
      (pss_cons (ps_if (pt_cmpR (op_eqD hr.units) (pv 1) (pe_lst pa_nil) (nomark _)) (pss_one (ps_set (i := 1) scBegin.nd rfl (.inl rfl) (pe_lst (pa_cons pe_int pa_nil)))) pss_nil)
      (pss_one (ps_ret (pe_disp (pps_cons pe_str (pv 1) (pps_cons pe_str pe_int pps_nil)) (by rfl) (by rfl) (fun z => by cases z) (by decide))))), ?_⟩
    -- the end: a dict of what stands at the cells' place
    have fin : ∀ (H1 : Hp) (c : Addr) (cs : List Int) (y : Option V), Same H H1 → H c = none → H1 c = some (.lst (cs.map V.int)) → cs ≠ [] → cs.length ≤ 63 →
        (tRet (tDisp [(tC (.str "cells"), tVar 1), (tC (.str "turn"), tC (.int 0))])) { nx := fun _ H' => Q .non H', rt := Q } [some (.ref a), some (.ref c)] H1 := by
      intro H1 c cs y s1 nc ec hne hl
      refine fun d nd => ⟨_, rfl, upd_same, [(.inr "cells", .ref c), (.inr "turn", .int 0)], rfl, (by show 2 ≤ 15; decide), ?_⟩
      have ndc : c ≠ d := ne_of_none ec nd
      refine q d c _ (fun b o e => ?_) (s1.free nd) nc ⟨?_, ⟨cs, ?_, hne, hl⟩, by decide⟩
      · have nb : b ≠ d := ne_of_none (s1 b o e) nd
        rw [upd_ne nb, upd_ne nb]
        exact s1 b o e
      · exact upd_same
      · rw [upd_ne ndc, upd_ne ndc]
        exact ec
    refine ⟨.ref a, rfl, 63, rfl, a, ns.map V.int, rfl, hS, fun p np => ?_⟩
    have s1 : Same H (upd H p (.lst (cutV (ns.map V.int) none (some 63)))) := same_upd np
    refine ⟨p, _, rfl, .inl (SqL.of upd_same), fun l nl => ?_⟩
    have s2 := s1.trans (same_upd (o := .lst (cutV (ns.map V.int) none (some 63))) nl)
    have ecut : cutV (ns.map V.int) none (some 63) = ns.map V.int := by
      have e := cut_front (ns.map V.int) 63
      have e2 : cutV (ns.map V.int) none (some 63) = (ns.map V.int).take 63 := e
      rw [e2, List.take_of_length_le (by rw [List.length_map]; exact hlen)]
    have el : upd (upd H p (.lst (cutV (ns.map V.int) none (some 63)))) l (.lst (cutV (ns.map V.int) none (some 63))) l = some (.lst (ns.map V.int)) := by
      rw [upd_same, ecut]
    revert s2 el
    generalize upd (upd H p (.lst (cutV (ns.map V.int) none (some 63)))) l (.lst (cutV (ns.map V.int) none (some 63))) = H2
    intro s2 el
    have nlH : H l = none := s1.free nl
    -- if cells == []
    refine ⟨.ref l, rfl, Nat.zero_le _, fun z nz => ?_⟩
    have s3 := s2.trans (same_upd (o := .lst []) nz)
    have nlz : l ≠ z := ne_of_none el nz
    have el3 : upd H2 z (.lst []) l = some (.lst (ns.map V.int)) := by rw [upd_ne nlz]; exact el
    refine ⟨.list (ns.map PyData.int), .list [], .lst (SqL.of el3) (dp_ints ns), .lst (SqL.of upd_same) .nil, shaped_ints ns, shaped_ints [], ?_⟩
    cases ns with
    | nil =>
      refine ⟨true, by rw [eqv_nil0], iteT ?_⟩
      refine ⟨(by show 1 ≤ sizeLine; decide), fun c nc => ?_⟩
      exact fin _ c [_] none (s3.trans (same_upd nc)) (s3.free nc) upd_same (by simp) (by decide)
    | cons n r =>
      refine ⟨false, by rw [eqv_nil], iteF ?_⟩
      exact fin _ l (n :: r) none s3 nlH el3 (by simp) hlen
end

/-- a def of the text that keeps a promise, as its callers see it -/
def Cal (P : Program) (w : World) (K : PySem.W.Frag) (mg : Str → Option Value) (base : Heap) (k : Nat) (x : Str) (ps : List Str) (sp : Sp) : Prop :=
  ∃ f fd, FnOk P w K mg base CX0 k f fd ps sp ∧ mg x = some (.ref f) ∧ PySem.W.keepIn K (.ref f) = true ∧ Binds K fd ps []
theorem pe_own {X : Cx} {k : Nat} {x : Str} {ps : List Str} {sp : Sp} {e : Expr} {es : List Expr} {t : TA} {p pos : Pos} (C : Cal X.prog X.w X.K X.mg X.base k x ps sp) (hr : Room k X.A) (hg : Gl X x) (ha : PA X (e :: es) t)
    (dbg : (x == ("__debug__" : Str)) = false := by decide) (one : starEach (e :: es) X.env = (false, eval e X.env) :: starEach es X.env := by rfl) (star : (backTo pos (starEach es X.env)).any (·.1) = false := by rfl) :
    PE X (.Call (.Name x p) (e :: es) [] pos) (tCall sp [] E0 t) := by
  obtain ⟨f, fd, F, hm, hk, hb⟩ := C
  exact pe_call F hr hg hm hk hb .nil pass0 ha dbg one star
theorem StAt.same {H H' : Hp} {d c : Addr} {t : Int} (h : StAt H d c t) (s : Same H H') : StAt H' d c t :=
  ⟨s _ _ h.dict, let ⟨cs, e, r⟩ := h.cells; ⟨cs, s _ _ e, r⟩, h.pos⟩
theorem Kp.same {H H' : Hp} (d c : Addr) (s : Same H H') : Kp d c H H' := fun b o _ _ e => s b o e
/-- what is made behind the state stays -/
theorem Kp.at {H H' : Hp} {d c a : Addr} {t : Int} {o : HO} (k : Kp d c H H') (S : StAt H d c t) (e : H a = some o) (h1 : ∀ kvs, o ≠ .dK kvs) (h2 : ∀ ns : List Int, o ≠ .lst (ns.map V.int)) : H' a = some o := by
  obtain ⟨cs, ec, _⟩ := S.cells
  refine k a o (fun z => ?_) (fun z => ?_) e
  · rw [z, S.dict] at e
    exact h1 _ (Option.some.inj e).symm
  · rw [z, ec] at e
    exact h2 _ (Option.some.inj e).symm
theorem StAt.upd {H : Hp} {d c l : Addr} {t : Int} {o : HO} (S : StAt H d c t) (h1 : l ≠ d) (h2 : l ≠ c) : StAt (L2.upd H l o) d c t := by
  refine ⟨by rw [upd_ne h1.symm]; exact S.dict, ?_, S.pos⟩
  obtain ⟨cs, ec, r⟩ := S.cells
  exact ⟨cs, by rw [upd_ne h2.symm]; exact ec, r⟩

abbrev sNumber : Stmt := topS 5
theorem scNumber : FnScope ["_law_state", "_law_kind", "_law_found", "_law_turn"] ["_law_state", "_law_kind"] (defScope sNumber) := ⟨rfl, rfl, rfl, by decide +kernel, rfl, by decide +kernel, by decide +kernel⟩
def spNumber : Sp := fun vs H Q _ => ∃ (d c : Addr) (t kd : Int), vs = [.ref d, .int kd] ∧ StAt H d c t ∧ t + 5 < 2 ^ 60 ∧ 0 ≤ kd ∧
  ∀ r t' H', 0 ≤ r → r < 10 ^ 30 → t ≤ t' → t' ≤ t + 5 → StAt H' d c t' → Kp d c H H' → Q (.int r) H'
section
variable {K : PySem.W.Frag} {mg : Str → Option Value} {P : Program} {w : World} {base : Heap}
theorem ok_number {f : Addr} {fd : FuncData} (F : Fun K "_law_number" "_law_number" sNumber f fd) (CT : Cal P w K mg base 1 "_law_take" ["_law_state", "_law_many"] spTake) (mr : mg "range" = none) :
    FnOk P w K mg base CX0 2 f fd ["_law_state", "_law_kind"] spNumber := by
  refine F.ok scNumber (fun vs H Q E h => ?_) (fun cdv A outer s H vs Q E hr h => ?_)
  · obtain ⟨d, c, t, kd, rfl, _⟩ := h
    rfl
  · obtain ⟨d, c, t, kd, rfl, hS, ht, hk, q⟩ := h
    refine ⟨_, pss_cons (ps_if (pt_cmpR op_lt (pv 1) pe_int (nomark _)) (pss_one (ps_ret (pe_own CT hr (by rfl) (pa_cons (pv 0) (pa_cons (pe_ix ix_list (pe_lst (pa_cons pe_int (pa_cons pe_int pa_nil))) (pv 1) (fun _ _ => rfl)) pa_nil))))) pss_nil)
      (pss_cons (ps_set (i := 2) scNumber.nd rfl (.inl rfl) pe_int)
      (pss_cons (ps_for PassesOwn.never rfl (pi_range1 rfl mr (pa_cons pe_int pa_nil)) (pg_name (i := 3) scNumber.nd rfl (.inl rfl))
        (pss_one (ps_set (i := 2) scNumber.nd rfl (.inl rfl) (pe_op op_add (pe_op op_mul (pv 2) (pe_op op_pow pe_int pe_int)) (pe_own CT hr (by rfl) (pa_cons (pv 0) (pa_cons (pe_op op_pow pe_int pe_int) pa_nil)))))))
      (pss_one (ps_ret (pv 2))))), ?_⟩
    refine ⟨_, rfl, _, _, rfl, rfl, _, rfl, ite2 (fun e => ?_) (fun e => ?_)⟩
    · have e' := of_decide_eq_true e
      refine ⟨_, rfl, (by show 2 ≤ sizeLine; decide), fun p np => ?_⟩
      have s1 : Same H (upd H p (.lst [.int 4, .int 1000001])) := same_upd np
      obtain ⟨m, hm0, hm1, hat⟩ : ∃ m : Int, 0 < m ∧ m ≤ 1000001 ∧ atI [V.int 4, V.int 1000001] kd = some (.int m) := by
        have : kd = 0 ∨ kd = 1 := by omega
        rcases this with rfl | rfl
        · exact ⟨4, by decide, by decide, rfl⟩
        · exact ⟨1000001, by decide, by decide, rfl⟩
      refine ⟨_, rfl, p, _, kd, .int m, rfl, rfl, SqL.of upd_same, hat, d, c, t, m, rfl, hS.same s1, by omega, hm0, by omega, fun r H' h0 h1 hS' k' => ?_⟩
      exact q r (t + 1) H' h0 (by omega) (by omega) (by omega) hS' ((Kp.same d c s1).trans k')
    · refine ⟨5, rfl, by decide, by decide, for_range (n := 5) (fun i σ H1 => ∃ (x t' : Int) (y : Option V), σ = [some (.ref d), some (.int kd), some (.int x), y] ∧ 0 ≤ x ∧ x < 10 ^ (6 * i) ∧ t ≤ t' ∧ t' ≤ t + i ∧ StAt H1 d c t' ∧ Kp d c H H1) ⟨0, t, none, rfl, by decide, by decide, by omega, by omega, hS, Kp.refl d c H⟩ (fun i σ H1 hi hP => ?_) (fun σ H1 hP => ?_)⟩
      · obtain ⟨x, t', y, rfl, x0, x1, h0, h1, hS1, k1⟩ := hP
        have x2 : x < 10 ^ 30 := by
          have : i = 0 ∨ i = 1 ∨ i = 2 ∨ i = 3 ∨ i = 4 := by omega
          rcases this with rfl | rfl | rfl | rfl | rfl <;> omega
        refine ⟨_, rfl, 10, 6, rfl, rfl, ⟨by decide, by decide, by decide⟩, x, 10 ^ 6, rfl, rfl, .inr ⟨by decide, by decide⟩, _, rfl, 10, 6, rfl, rfl, ⟨by decide, by decide, by decide⟩, d, c, t', 10 ^ 6, rfl, hS1, by omega, by decide, by decide, fun r H2 r0 r1 hS2 k2 => ?_⟩
        refine ⟨x * 10 ^ 6, r, rfl, rfl, x * 10 ^ 6 + r, t' + 1, _, rfl, by omega, ?_, by omega, by omega, hS2, k1.trans k2⟩
        have : i = 0 ∨ i = 1 ∨ i = 2 ∨ i = 3 ∨ i = 4 := by omega
        rcases this with rfl | rfl | rfl | rfl | rfl <;> omega
      · obtain ⟨x, t', y, rfl, x0, x1, h0, h1, hS1, k1⟩ := hP
        exact ⟨_, rfl, q x t' H1 x0 (by omega) h0 (by omega) hS1 k1⟩
end

theorem _root_.GP.Prs.same {H H' : Hp} {vs : List V} {ps : List (Int × Int)} (h : Prs H vs ps) (s : Same H H') : Prs H' vs ps :=
  ⟨h.1, fun i p e => let ⟨a, e1, e2⟩ := h.2 i p e; ⟨a, e1, s _ _ e2⟩⟩
theorem _root_.GP.Prs.kp {H H' : Hp} {d c : Addr} {t : Int} {vs : List V} {ps : List (Int × Int)} (h : Prs H vs ps) (S : StAt H d c t) (k : Kp d c H H') : Prs H' vs ps :=
  ⟨h.1, fun i p e => let ⟨a, e1, e2⟩ := h.2 i p e; ⟨a, e1, k.at S e2 (fun _ z => nomatch z) (fun _ z => nomatch z)⟩⟩
theorem _root_.GP.Prs.upd_lst {H : Hp} {l : Addr} {xs : List V} {o : HO} {vs : List V} {ps : List (Int × Int)} (h : Prs H vs ps) (hl : H l = some (.lst xs)) : Prs (upd H l o) vs ps :=
  ⟨h.1, fun i p e => let ⟨a, e1, e2⟩ := h.2 i p e; ⟨a, e1, by rw [upd_ne (ne_of e2 hl (fun z => nomatch z))]; exact e2⟩⟩
theorem _root_.GP.Prs.nil {H : Hp} : Prs H [] [] := ⟨rfl, fun i p e => by simp at e⟩
theorem _root_.GP.Prs.snoc {H : Hp} {a : Addr} {x y : Int} {vs : List V} {ps : List (Int × Int)} (h : Prs H vs ps) (e : H a = some (.tup [.int x, .int y])) : Prs H (vs ++ [.ref a]) (ps ++ [(x, y)]) := by
  refine ⟨by simp [h.1], fun i p ep => ?_⟩
  by_cases hi : i < ps.length
  · rw [List.getElem?_append_left hi] at ep
    obtain ⟨b, e1, e2⟩ := h.2 i p ep
    exact ⟨b, by rw [List.getElem?_append_left (by rw [h.1]; exact hi)]; exact e1, e2⟩
  · rw [List.getElem?_append_right (by omega)] at ep
    have hz : i - ps.length = 0 := by
      cases hq : i - ps.length with
      | zero => rfl
      | succ n => rw [hq] at ep; simp at ep
    rw [hz] at ep
    have ep' : (x, y) = p := by simpa using ep
    subst ep'
    refine ⟨a, ?_, e⟩
    rw [List.getElem?_append_right (by rw [h.1]; omega), h.1, hz]
    rfl
/-- rising stretches with gaps, from lo on -/
def Ris : Int → List (Int × Int) → Prop
  | _, [] => True
  | lo, p :: r => lo ≤ p.1 ∧ p.1 ≤ p.2 ∧ Ris (p.2 + 2) r
theorem Ris.snoc : ∀ {lo : Int} {ps : List (Int × Int)} {a b : Int}, Ris lo ps → lo ≤ a → (∀ p ∈ ps, p.2 + 2 ≤ a) → a ≤ b → Ris lo (ps ++ [(a, b)])
  | lo, [], a, b, _, h1, _, h3 => ⟨h1, h3, True.intro⟩
  | lo, p :: r, a, b, h, h1, h2, h3 => ⟨h.1, h.2.1, Ris.snoc h.2.2 (h2 p (List.mem_cons_self ..)) (fun q hq => h2 q (List.mem_cons_of_mem _ hq)) h3⟩
theorem pick2 {x y r : Int} (Pv : Int → Prop) (h0 : 0 ≤ r) (h1 : r < 2) (hx : Pv x) (hy : Pv y) : ∃ v, Pv v ∧ atI [V.int x, V.int y] r = some (.int v) := by
  have : r = 0 ∨ r = 1 := by omega
  rcases this with rfl | rfl
  · exact ⟨x, hx, rfl⟩
  · exact ⟨y, hy, rfl⟩
theorem pick3 {x y z r : Int} (Pv : Int → Prop) (h0 : 0 ≤ r) (h1 : r < 3) (hx : Pv x) (hy : Pv y) (hz : Pv z) : ∃ v, Pv v ∧ atI [V.int x, V.int y, V.int z] r = some (.int v) := by
  have : r = 0 ∨ r = 1 ∨ r = 2 := by omega
  rcases this with rfl | rfl | rfl
  · exact ⟨x, hx, rfl⟩
  · exact ⟨y, hy, rfl⟩
  · exact ⟨z, hz, rfl⟩
/-- a new object stands through the state's change -/
theorem Kp.new {H H' : Hp} {d c l : Addr} {t : Int} {o : HO} (k : Kp d c (upd H l o) H') (S : StAt H d c t) (n : H l = none) : H' l = some o := by
  obtain ⟨cs, ec, _⟩ := S.cells
  exact k l o (ne_of_none S.dict n).symm (ne_of_none ec n).symm upd_same
theorem drop_at {α : Type} {l : List α} {i : Nat} {x : α} (h : l[i]? = some x) : l.drop i = x :: l.drop (i + 1) := by
  obtain ⟨lt, e⟩ := List.getElem?_eq_some_iff.mp h
  rw [← e]
  exact List.drop_eq_getElem_cons lt
theorem prs_at {H : Hp} {vs : List V} {ps : List (Int × Int)} {i : Nat} {x : V} (h : Prs H vs ps) (e : vs[i]? = some x) : ∃ (p : Int × Int) (a : Addr), ps[i]? = some p ∧ x = .ref a ∧ H a = some (.tup [.int p.1, .int p.2]) := by
  obtain ⟨hi, _⟩ := List.getElem?_eq_some_iff.mp e
  have hi2 : i < ps.length := by rw [← h.1]; exact hi
  obtain ⟨a, e1, e2⟩ := h.2 i ps[i] (List.getElem?_eq_getElem hi2)
  rw [e] at e1
  exact ⟨ps[i], a, List.getElem?_eq_getElem hi2, Option.some.inj e1, e2⟩

theorem sumP_append (g : Int → Int → Int) (ps qs : List (Int × Int)) : sumP g (ps ++ qs) = sumP g ps + sumP g qs := by
  unfold sumP
  rw [List.map_append, List.sum_append]
def inB (n a b : Int) : Bool := decide (a ≤ n) && decide (n ≤ b)
theorem Ris.le : ∀ {lo : Int} {ps : List (Int × Int)}, Ris lo ps → ∀ p ∈ ps, lo ≤ p.1 ∧ p.1 ≤ p.2
  | _, [], _, _, hp => nomatch hp
  | lo, q :: r, h, p, hp => by
    rcases List.mem_cons.mp hp with e | e'
    · rw [e]; exact ⟨h.1, h.2.1⟩
    · have := Ris.le h.2.2 p e'
      have := h.2.1
      have := h.1
      omega

/-! ### walks over a list or a tuple -/
def Sq (K : PySem.W.Frag) (H : Hp) (a : Addr) (xs : List V) : Prop := SqL K H a xs ∨ SqT K H a xs
def iSeq (K : PySem.W.Frag) (tl : TE) : TI := fun σ H R => tl σ H fun x H1 => ∃ a, x = .ref a ∧ (((∃ xs, SqL K H1 a xs) ∧ R (Itl K a) H1) ∨ ((∃ xs, SqT K H1 a xs) ∧ R (Itt K a) H1))
/-- the iterator that was just laid is no one's -/
theorem lone {X : Cx} {pins : List (Addr × Obj)} {σ : L2.St} {H : Hp} {s : Shared} (I : Inv X pins σ H s) : ∀ b ∈ [s.heap.objs.size], FpOk X pins H b := fun b hb => by
  rw [List.mem_singleton.mp hb]
  exact I.fpOk (H' := H) (Nat.le_refl _) (I.hok.fresh (Nat.le_refl _))
theorem pi_seq {X : Cx} {tg l : Expr} {tl : TE} (walked : PE X l tl) : PI X tg l (iSeq X.K tl) := by
  constructor
  intro pins s σ H R I h
  refine thn (walked.run pins s σ H _ I h) fun u s1 had => ?_
  obtain ⟨_, H1, J, rel, a, rfl, had⟩ := had
  cases rel
  have laid : ∀ o, Inv X pins σ H1 { s1 with heap := s1.heap.push o } := fun o => J.kept (t' := s1.toks) fun _ _ e => Heap.get?_push_of_some _ e
  rcases had with ⟨⟨xs, hq⟩, q⟩ | ⟨⟨xs, hq⟩, q⟩
  · obtain ⟨its, _, isL, _⟩ := J.list hq
    exact wpAny_pyIter_list isL.isList ⟨_, _, _, _, H1, rfl, laid _, turn_list a _, ⟨_, Heap.get?_push_size _ rfl, rfl, rfl⟩, lone J, q⟩
  · obtain ⟨its, _, isT, _⟩ := J.tuple hq
    exact wpAny_pyIter_tuple (items := its.toArray) isT ⟨_, _, _, _, H1, rfl, laid _, turn_tuple a _, ⟨_, Heap.get?_push_size _ rfl, rfl, rfl⟩, lone J, q⟩
/-- the walked thing stands as it stood -/
def SqTo (K : PySem.W.Frag) (H H' : Hp) (a : Addr) (xs : List V) : Prop := (SqL K H a xs → SqL K H' a xs) ∧ (SqT K H a xs → SqT K H' a xs)
theorem SqTo.refl {K : PySem.W.Frag} {H : Hp} {a : Addr} {xs : List V} : SqTo K H H a xs := ⟨fun h => h, fun h => h⟩
theorem same_t {K : PySem.W.Frag} {H H' : Hp} {a : Addr} {xs : List V} (s : Same H H') (h : SqT K H a xs) : SqT K H' a xs :=
  h.elim (fun r => .inl (r.elim (fun e => .inl (s a _ e)) fun ⟨o, e⟩ => .inr ⟨o, s a _ e⟩)) .inr
theorem SqTo.same {K : PySem.W.Frag} {H H' : Hp} {a : Addr} {xs : List V} (s : Same H H') : SqTo K H H' a xs := ⟨s.seq, same_t s⟩
theorem Sq.same {K : PySem.W.Frag} {H H' : Hp} {a : Addr} {xs : List V} (h : Sq K H a xs) (s : Same H H') : Sq K H' a xs := h.elim (fun h => .inl (s.seq h)) fun h => .inr (same_t s h)
theorem Sq.list {K : PySem.W.Frag} {H : Hp} {a : Addr} {xs : List V} (h : H a = some (.lst xs)) : Sq K H a xs := .inl (SqL.of h)
theorem Sq.tup {K : PySem.W.Frag} {H : Hp} {a : Addr} {xs : List V} (h : H a = some (.tup xs)) : Sq K H a xs := .inr (.inl (.inl h))
abbrev ForR (J : It) (g : TG) (tb : TS) (D : Ends) (σ : L2.St) (H1 : Hp) : Prop := ∃ W : Nat → Nat → L2.St → Hp → Prop, (∃ m, W 0 m σ H1) ∧ ∀ i m σ H, W i m σ H →
  (J.stop i H ∧ D.nx σ H) ∨ (J.go i H ∧ ∃ N : L2.St → Hp → Prop, (∀ σ' H', N σ' H' → ∃ m', m' < m ∧ W (i + 1) m' σ' H') ∧ ∀ x H', J.yld i H x H' → g x σ H' fun σ2 H2 => tb { D with nx := N, ct := N, bk := D.nx } σ2 H2)
theorem for_seq {K : PySem.W.Frag} {a : Addr} {xs : List V} {g : TG} {tb : TS} {D : Ends} {σ : L2.St} {H1 : Hp} (hq : Sq K H1 a xs) (Pv : Nat → L2.St → Hp → Prop) (h0 : Pv 0 σ H1)
    (hl : ∀ i σ H', i ≤ xs.length → Pv i σ H' → SqTo K H1 H' a xs)
    (turn : ∀ i x σ H, xs[i]? = some x → Pv i σ H → g x σ H fun σ2 H2 => tb { D with nx := Pv (i + 1), ct := Pv (i + 1), bk := D.nx } σ2 H2) (fin : ∀ σ H, Pv xs.length σ H → D.nx σ H) :
    ((∃ xs, SqL K H1 a xs) ∧ ForR (Itl K a) g tb D σ H1) ∨ ((∃ xs, SqT K H1 a xs) ∧ ForR (Itt K a) g tb D σ H1) := by
  rcases hq with h | h
  · exact .inl ⟨⟨xs, h⟩, for_list (xs := xs) Pv h0 (fun i σ H' hi p => (hl i σ H' hi p).1 h) turn fin⟩
  · exact .inr ⟨⟨xs, h⟩, for_tup (xs := xs) Pv h0 (fun i σ H' hi p => (hl i σ H' hi p).2 h) turn fin⟩

/-! ### the table of the def that holds the generator expression -/
theorem tab_at {Pt : Addr} {H H2 : Hp} {b : Addr} {o : HO} (g : GxR.TabG H Pt) (t : GxR.Tabbed Pt H H2) (e : H b = some o) (h : ∀ q, o ≠ .tbl q) : H2 b = some o := by
  obtain ⟨ps, hP, _⟩ := g
  rw [t.2 b (ne_of e hP (h ps))]
  exact e
theorem StAt.tab {Pt : Addr} {H H2 : Hp} {d c : Addr} {t : Int} (S : StAt H d c t) (g : GxR.TabG H Pt) (x : GxR.Tabbed Pt H H2) : StAt H2 d c t :=
  ⟨tab_at g x S.dict (fun _ z => nomatch z), let ⟨cs, e, r⟩ := S.cells; ⟨cs, tab_at g x e (fun _ z => nomatch z), r⟩, S.pos⟩
theorem _root_.GP.Prs.tab {Pt : Addr} {H H2 : Hp} {vs : List V} {ps : List (Int × Int)} (h : Prs H vs ps) (g : GxR.TabG H Pt) (x : GxR.Tabbed Pt H H2) : Prs H2 vs ps :=
  ⟨h.1, fun i p e => let ⟨a, e1, e2⟩ := h.2 i p e; ⟨a, e1, tab_at g x e2 (fun _ z => nomatch z)⟩⟩
theorem tabG_same {Pt : Addr} {H H' : Hp} (g : GxR.TabG H Pt) (s : Same H H') : GxR.TabG H' Pt := let ⟨ps, e, r⟩ := g; ⟨ps, s _ _ e, r⟩
theorem tabG_kp {Pt : Addr} {H H' : Hp} {d c : Addr} {t : Int} (g : GxR.TabG H Pt) (S : StAt H d c t) (k : Kp d c H H') : GxR.TabG H' Pt := let ⟨ps, e, r⟩ := g; ⟨ps, k.at S e (fun _ z => nomatch z) (fun _ z => nomatch z), r⟩
theorem tabG_upd {Pt : Addr} {H : Hp} {l : Addr} {o u : HO} (g : GxR.TabG H Pt) (e : H l = some o) (h : ∀ q, o ≠ .tbl q) : GxR.TabG (upd H l u) Pt := let ⟨ps, eP, r⟩ := g; ⟨ps, by rw [upd_ne (ne_of e eP (h ps)).symm]; exact eP, r⟩
theorem tabbed_free {Pt : Addr} {H H2 : Hp} {p : Addr} (g : GxR.TabG H Pt) (x : GxR.Tabbed Pt H H2) (h : H2 p = none) : H p = none := by
  obtain ⟨ps, e, _⟩ := x.1
  rw [← x.2 p (fun z => by rw [z, e] at h; cases h)]
  exact h

/-! ### d.update([(k, v), ..]) -/
def rUpdP (K : PySem.W.Frag) : V → List V → Hp → VK → Prop := fun x vs H Q => ∃ (d a : Addr) (ps : List Addr) (kvs old : List (Key × V)), x = .ref d ∧ vs = [.ref a] ∧ H d = some (.dK old) ∧ H a = some (.lst (ps.map V.ref)) ∧ Paired (fun p kv => SqT K H p [kV kv.1, kv.2]) ps kvs ∧
  old.length + kvs.length ≤ sizeLine ∧ Q .non (upd H d (.dK (mergeK old kvs)))
theorem mt_update {X : Cx} (calm : X.calm = true) : MtR X "dict.update" (rUpdP X.K) := by
  intro pins s σ H x vs v us Q I rx rv had
  obtain ⟨d, a, ps, kvs, old, rfl, rfl, hd, ha, hp, hz, q⟩ := had
  cases rx
  obtain ⟨u, rfl, ru⟩ := vals1 rv
  cases ru
  obtain ⟨_, its, n, ri, ea⟩ := I.hok a _ ha
  obtain rfl := refs_at ri
  obtain ⟨prs, rel, plen, hpr⟩ := pairs_of I hp
  obtain ⟨_, sys, ws, rw', isD⟩ := I.hok d _ hd
  -- the pairs, by place
  have one : ∀ j : Nat, ∃ (b : Addr) (k : Value), ∀ qv, prs[j]? = some qv → ps[j]? = some b ∧ IsTup s.heap b #[k, qv.2] ∧ keyIs qv.1 k = true := fun j => by
    cases e : prs[j]? with
    | none => exact ⟨0, .none, fun _ z => nomatch z⟩
    | some qv =>
      obtain ⟨b, k, h1, h2, h3⟩ := hpr j qv e
      exact ⟨b, k, fun qv' z => by cases z; exact ⟨h1, h2, h3⟩⟩
  let loc : Nat → Addr := fun j => (one j).choose
  let key : Nat → Value := fun j => (one j).choose_spec.choose
  have spec : ∀ j qv, prs[j]? = some qv → ps[j]? = some (loc j) ∧ IsTup s.heap (loc j) #[key j, qv.2] ∧ keyIs qv.1 (key j) = true := fun j => (one j).choose_spec.choose_spec
  let pv : List (Value × Value) := (List.range prs.length).map fun j => (key j, (prs[j]?.map (·.2)).getD .none)
  have pvl : pv.length = prs.length := by simp [pv]
  have pvat : ∀ j k v, pv[j]? = some (k, v) → ∃ qv, prs[j]? = some qv ∧ k = key j ∧ v = qv.2 := fun j k v e => by
    have hj : j < prs.length := by rw [← pvl]; exact (List.getElem?_eq_some_iff.mp e).1
    have e2 : pv[j]? = some (key j, (prs[j]?.map (·.2)).getD .none) := by simp [pv, hj]
    rw [e2, List.getElem?_eq_getElem hj] at e
    cases e
    exact ⟨_, List.getElem?_eq_getElem hj, rfl, rfl⟩
  have lenk : kvs.length = prs.length := Paired.length rel
  have isL : PlainSeq "list" s.heap a (ps.map Value.ref).toArray := ⟨_, n, ea, rfl, rfl, rfl⟩
  have items : PairItems s.heap (ps.map Value.ref).toArray loc pv := ⟨by rw [List.size_toArray, List.length_map, pvl, plen], fun j k v e => by
    obtain ⟨qv, e1, rfl, rfl⟩ := pvat j k v e
    obtain ⟨h1, h2, _⟩ := spec j qv e1
    refine ⟨?_, .inl h2⟩
    rw [List.getElem?_toArray, List.getElem?_map, h1]
    rfl⟩
  have off : d ∉ a :: (List.range pv.length).map loc := fun z => by
    rcases List.mem_cons.mp z with e | e
    · exact ne_of hd ha (fun z => nomatch z) e
    · obtain ⟨j, hj, e⟩ := List.mem_map.mp e
      have hj' : j < prs.length := by rw [← pvl]; exact List.mem_range.mp hj
      obtain ⟨_, ⟨o, h2, h3, _⟩, _⟩ := spec j prs[j] (List.getElem?_eq_getElem hj')
      obtain ⟨o', _, _, g1, g2, _⟩ := isD
      rw [e, g1] at h2
      have z3 := g2.1
      rw [Option.some.inj h2, h3] at z3
      simp at z3
  have wl : old.length = ws.length := Paired.length rw'
  refine call_update_pairs (knd := mixKind X.prog X.w) (kvs := prs) (PairArg.list a (ps.map Value.ref).toArray loc pv) (I.ok.hd calm) ⟨isL, items⟩ off ⟨pvl.symm, fun i k v e => ?_⟩ isD (by rw [pvl, ← wl, ← lenk]; exact hz) fun h' tk made kept => ?_
  · obtain ⟨qv, e1, rfl, rfl⟩ := pvat i k v e
    exact ⟨qv.1, e1, (spec i qv e1).2.2⟩
  · refine ⟨.non, _, I.write (x := d) (e := d) (by rw [hd]; trivial) (.inl rfl) (fun b u hb e => kept b u hb (fun z => nomatch z) e) ?_ ?_, rfl, q⟩
    · obtain ⟨o, _, _, g1, _⟩ := made
      exact ⟨o, g1⟩
    · refine ⟨Nat.le_trans (length_mergeK kvs old) ?_, sys, merged ws prs, KV.merge rel rw', made⟩
      exact hz

/-! ### sets by stretches: the mathematics -/
theorem inB_iff {n a b : Int} : inB n a b = true ↔ a ≤ n ∧ n ≤ b := by
  unfold inB
  rw [Bool.and_eq_true, decide_eq_true_eq (p := a ≤ n), decide_eq_true_eq]
theorem anyP_iff {n : Int} {ps : List (Int × Int)} : anyP (inB n) ps = true ↔ ∃ p ∈ ps, p.1 ≤ n ∧ n ≤ p.2 := by
  unfold anyP
  rw [List.any_eq_true]
  constructor
  · rintro ⟨p, hp, e⟩
    exact ⟨p, hp, inB_iff.mp e⟩
  · rintro ⟨p, hp, e⟩
    exact ⟨p, hp, inB_iff.mpr e⟩
/-- the same numbers -/
def Alike (ps qs : List (Int × Int)) : Prop := ∀ n : Int, (∃ p ∈ ps, p.1 ≤ n ∧ n ≤ p.2) ↔ ∃ p ∈ qs, p.1 ≤ n ∧ n ≤ p.2
theorem Alike.any {ps qs : List (Int × Int)} (h : Alike ps qs) (n : Int) : anyP (inB n) ps = anyP (inB n) qs := by
  rw [Bool.eq_iff_iff, anyP_iff, anyP_iff]
  exact h n
theorem Alike.symm {ps qs : List (Int × Int)} (h : Alike ps qs) : Alike qs ps := fun n => (h n).symm
theorem Alike.trans {ps qs rs : List (Int × Int)} (h : Alike ps qs) (h' : Alike qs rs) : Alike ps rs := fun n => (h n).trans (h' n)
theorem Alike.of_mem {ps qs : List (Int × Int)} (h : ∀ p, p ∈ ps ↔ p ∈ qs) : Alike ps qs := fun n => ⟨fun ⟨p, hp, e⟩ => ⟨p, (h p).mp hp, e⟩, fun ⟨p, hp, e⟩ => ⟨p, (h p).mpr hp, e⟩⟩
/-- of each set of numbers there is just one list -/
theorem ris_one : ∀ {rs rs' : List (Int × Int)} {lo lo' : Int}, Ris lo rs → Ris lo' rs' → Alike rs rs' → rs = rs'
  | [], [], _, _, _, _, _ => by rfl
  | [], q :: r, _, _, _, h', e => by
    obtain ⟨p, hp, _⟩ := (e q.1).mpr ⟨q, List.mem_cons_self .., Int.le_refl _, h'.2.1⟩
    exact nomatch hp
  | q :: r, [], _, _, h, _, e => by
    obtain ⟨p, hp, _⟩ := (e q.1).mp ⟨q, List.mem_cons_self .., Int.le_refl _, h.2.1⟩
    exact nomatch hp
  | (a, b) :: r, (a', b') :: r', lo, lo', h, h', e => by
    have hb : a ≤ b := h.2.1
    have hb' : a' ≤ b' := h'.2.1
    have tl : ∀ p ∈ r, b + 2 ≤ p.1 ∧ p.1 ≤ p.2 := Ris.le h.2.2
    have tl' : ∀ p ∈ r', b' + 2 ≤ p.1 ∧ p.1 ≤ p.2 := Ris.le h'.2.2
    have m1 : a' ≤ a := by
      obtain ⟨p, hp, e1, e2⟩ := (e a).mp ⟨(a, b), List.mem_cons_self .., Int.le_refl _, hb⟩
      rcases List.mem_cons.mp hp with z | z
      · rw [z] at e1; exact e1
      · have := tl' p z; omega
    have m2 : a ≤ a' := by
      obtain ⟨p, hp, e1, e2⟩ := (e a').mpr ⟨(a', b'), List.mem_cons_self .., Int.le_refl _, hb'⟩
      rcases List.mem_cons.mp hp with z | z
      · rw [z] at e1; exact e1
      · have := tl p z; omega
    have ea : a = a' := by omega
    have n1 : ¬ b < b' := fun lt => by
      obtain ⟨p, hp, e1, e2⟩ := (e (b + 1)).mpr ⟨(a', b'), List.mem_cons_self .., by show a' ≤ b + 1; omega, by show b + 1 ≤ b'; omega⟩
      rcases List.mem_cons.mp hp with z | z
      · rw [z] at e2; have : b + 1 ≤ b := e2; omega
      · have := tl p z; omega
    have n2 : ¬ b' < b := fun lt => by
      obtain ⟨p, hp, e1, e2⟩ := (e (b' + 1)).mp ⟨(a, b), List.mem_cons_self .., by show a ≤ b' + 1; omega, by show b' + 1 ≤ b; omega⟩
      rcases List.mem_cons.mp hp with z | z
      · rw [z] at e2; have : b' + 1 ≤ b' := e2; omega
      · have := tl' p z; omega
    have eb : b = b' := by omega
    subst ea eb
    have er : Alike r r' := fun n => by
      constructor
      · rintro ⟨p, hp, e1, e2⟩
        obtain ⟨p', hp', f1, f2⟩ := (e n).mp ⟨p, List.mem_cons_of_mem _ hp, e1, e2⟩
        rcases List.mem_cons.mp hp' with z | z
        · rw [z] at f2
          have : n ≤ b := f2
          have := tl p hp
          omega
        · exact ⟨p', z, f1, f2⟩
      · rintro ⟨p, hp, e1, e2⟩
        obtain ⟨p', hp', f1, f2⟩ := (e n).mpr ⟨p, List.mem_cons_of_mem _ hp, e1, e2⟩
        rcases List.mem_cons.mp hp' with z | z
        · rw [z] at f2
          have : n ≤ b := f2
          have := tl' p hp
          omega
        · exact ⟨p', z, f1, f2⟩
    rw [ris_one h.2.2 h'.2.2 er]
theorem Ris.front : ∀ {lo : Int} {rs : List (Int × Int)} {q : Int × Int}, Ris lo (rs ++ [q]) → Ris lo rs ∧ (∀ r ∈ rs, r.2 + 2 ≤ q.1) ∧ lo ≤ q.1 ∧ q.1 ≤ q.2
  | lo, [], q, h => ⟨True.intro, (fun _ z => nomatch z), h.1, h.2.1⟩
  | lo, r :: rs, q, h => by
    obtain ⟨h1, h2, h3, h4⟩ := Ris.front h.2.2
    refine ⟨⟨h.1, h.2.1, h1⟩, fun x hx => ?_, by have := h.1; have := h.2.1; omega, h4⟩
    rcases List.mem_cons.mp hx with z | z
    · rw [z]; exact h3
    · exact h2 x z
/-- what is told of pairs: a set of just their numbers -/
structure SetLike (ps rs : List (Int × Int)) : Prop where
  ris : ∃ lo, Ris lo rs
  same : Alike rs ps
  len : rs.length ≤ ps.length
/-- between two turns: the pairs so far, rising by their firsts, and what is merged of them -/
structure Mrg (pre rs : List (Int × Int)) : Prop extends SetLike pre rs where
  firsts : ∀ r ∈ rs, ∃ p ∈ pre, p.1 = r.1
theorem alike_snoc {pre : List (Int × Int)} {rs rs' : List (Int × Int)} {p : Int × Int} (h : Alike rs pre) (e : ∀ n, (∃ q ∈ rs', q.1 ≤ n ∧ n ≤ q.2) ↔ (∃ q ∈ rs, q.1 ≤ n ∧ n ≤ q.2) ∨ (p.1 ≤ n ∧ n ≤ p.2)) : Alike rs' (pre ++ [p]) := fun n => by
  rw [e n, h n]
  constructor
  · rintro (⟨q, hq, z⟩ | z)
    · exact ⟨q, List.mem_append_left _ hq, z⟩
    · exact ⟨p, List.mem_append_right _ (List.mem_singleton.mpr rfl), z⟩
  · rintro ⟨q, hq, z⟩
    rcases List.mem_append.mp hq with y | y
    · exact .inl ⟨q, y, z⟩
    · rw [List.mem_singleton.mp y] at z
      exact .inr z
theorem Mrg.join {pre rs : List (Int × Int)} {a b : Int} {p : Int × Int} (m : Mrg pre (rs ++ [(a, b)])) (hp : p.1 ≤ p.2) (ord : ∀ q ∈ pre, q.1 ≤ p.1) (near : p.1 ≤ b + 1) : Mrg (pre ++ [p]) (rs ++ [(a, if p.2 > b then p.2 else b)]) := by
  obtain ⟨lo, hr⟩ := m.ris
  obtain ⟨h1, h2, h3, h4⟩ := Ris.front hr
  obtain ⟨q, hq, eq⟩ := m.firsts (a, b) (List.mem_append_right _ (List.mem_singleton.mpr rfl))
  have hap : a ≤ p.1 := by have := ord q hq; have : q.1 = a := eq; omega
  have hab : a ≤ b := h4
  have big : a ≤ (if p.2 > b then p.2 else b) := by split <;> omega
  refine ⟨⟨⟨lo, h1.snoc h3 h2 big⟩, alike_snoc m.same fun n => ?_, ?_⟩, fun r hr => ?_⟩
  · constructor
    · rintro ⟨q, hq, z⟩
      rcases List.mem_append.mp hq with y | y
      · exact .inl ⟨q, List.mem_append_left _ y, z⟩
      · rw [List.mem_singleton.mp y] at z
        have z1 : a ≤ n := z.1
        have z2 : n ≤ (if p.2 > b then p.2 else b) := z.2
        by_cases c : n ≤ b
        · exact .inl ⟨(a, b), List.mem_append_right _ (List.mem_singleton.mpr rfl), z1, c⟩
        · refine .inr ⟨by omega, ?_⟩
          split at z2 <;> omega
    · rintro (⟨q, hq, z⟩ | z)
      · rcases List.mem_append.mp hq with y | y
        · exact ⟨q, List.mem_append_left _ y, z⟩
        · rw [List.mem_singleton.mp y] at z
          refine ⟨_, List.mem_append_right _ (List.mem_singleton.mpr rfl), z.1, ?_⟩
          have z2 : n ≤ b := z.2
          show n ≤ (if p.2 > b then p.2 else b)
          split <;> omega
      · refine ⟨_, List.mem_append_right _ (List.mem_singleton.mpr rfl), by show a ≤ n; omega, ?_⟩
        show n ≤ (if p.2 > b then p.2 else b)
        split <;> omega
  · have := m.len
    rw [List.length_append, List.length_append] at *
    show rs.length + 1 ≤ pre.length + 1
    have : rs.length + 1 ≤ pre.length := this
    omega
  · rcases List.mem_append.mp hr with y | y
    · obtain ⟨q, hq, e⟩ := m.firsts r (List.mem_append_left _ y)
      exact ⟨q, List.mem_append_left _ hq, e⟩
    · rw [List.mem_singleton.mp y]
      exact ⟨q, List.mem_append_left _ hq, eq⟩
theorem Mrg.new {pre rs : List (Int × Int)} {p : Int × Int} (m : Mrg pre rs) (hp : p.1 ≤ p.2) (ord : ∀ q ∈ pre, q.1 ≤ p.1) (far : ∀ r ∈ rs, r.2 + 2 ≤ p.1) : Mrg (pre ++ [p]) (rs ++ [p]) := by
  obtain ⟨lo, hr⟩ := m.ris
  refine ⟨⟨?_, alike_snoc m.same fun n => ?_, by have := m.len; rw [List.length_append, List.length_append]; show rs.length + 1 ≤ pre.length + 1; omega⟩, fun r hr => ?_⟩
  · cases rs with
    | nil => exact ⟨p.1, Int.le_refl _, hp, True.intro⟩
    | cons q r =>
      refine ⟨lo, hr.snoc ?_ far hp⟩
      have := hr.le q (List.mem_cons_self ..)
      have := far q (List.mem_cons_self ..)
      omega
  · constructor
    · rintro ⟨q, hq, z⟩
      rcases List.mem_append.mp hq with y | y
      · exact .inl ⟨q, y, z⟩
      · rw [List.mem_singleton.mp y] at z; exact .inr z
    · rintro (⟨q, hq, z⟩ | z)
      · exact ⟨q, List.mem_append_left _ hq, z⟩
      · exact ⟨p, List.mem_append_right _ (List.mem_singleton.mpr rfl), z⟩
  · rcases List.mem_append.mp hr with y | y
    · obtain ⟨q, hq, e⟩ := m.firsts r y
      exact ⟨q, List.mem_append_left _ hq, e⟩
    · rw [List.mem_singleton.mp y]
      exact ⟨p, List.mem_append_right _ (List.mem_singleton.mpr rfl), rfl⟩
theorem Mrg.nil : Mrg [] [] := ⟨⟨⟨0, True.intro⟩, fun _ => Iff.rfl, Nat.le_refl _⟩, fun _ z => nomatch z⟩

/-! ### set_of -/
abbrev LcR (J : It) (g : TG) (tt : TT) (te : TE) (vs : List Nat) (σ : L2.St) (D : Addr) (Qd : Addr → Hp → Prop) (H1 : Hp) : Prop := ∃ W : Nat → Nat → Hp → Prop, (∃ m, W 0 m (upd H1 D (.lst []))) ∧ ∀ i m H, W i m H →
  (J.stop i H ∧ Qd D H) ∨ (J.go i H ∧ ∃ Nx : Hp → Prop, (∀ H', Nx H' → ∃ m', m' < m ∧ W (i + 1) m' H') ∧ ∀ x H', J.yld i H x H' → g x (wipe σ vs) H' fun σ2 H2 => wipe σ2 vs = wipe σ vs ∧ tt σ2 H2 fun b H3 => if b = true then
    te σ2 H3 fun y H4 => ∃ acc, H4 D = some (.lst acc) ∧ acc.length < sizeLine ∧ Nx (upd H4 D (.lst (acc ++ [y]))) else Nx H3)
theorem lc_seq {K : PySem.W.Frag} {a : Addr} {xs : List V} {g : TG} {tt : TT} {te : TE} {vs : List Nat} {σ : L2.St} {H1 : Hp} {Qd : Addr → Hp → Prop} (hq : Sq K H1 a xs) (Pv : Addr → Nat → Hp → Prop) (h0 : ∀ D, H1 D = none → Pv D 0 (upd H1 D (.lst [])))
    (still : ∀ D i H', H1 D = none → Pv D i H' → SqTo K H1 H' a xs)
    (turn : ∀ D i x H', H1 D = none → xs[i]? = some x → Pv D i H' → g x (wipe σ vs) H' fun σ2 H2 => wipe σ2 vs = wipe σ vs ∧ tt σ2 H2 fun b H3 =>
      if b = true then te σ2 H3 fun y H4 => ∃ acc, H4 D = some (.lst acc) ∧ acc.length < sizeLine ∧ Pv D (i + 1) (upd H4 D (.lst (acc ++ [y]))) else Pv D (i + 1) H3) (fin : ∀ D H', H1 D = none → Pv D xs.length H' → Qd D H') :
    ((∃ xs, SqL K H1 a xs) ∧ ∀ D, H1 D = none → LcR (Itl K a) g tt te vs σ D Qd H1) ∨ ((∃ xs, SqT K H1 a xs) ∧ ∀ D, H1 D = none → LcR (Itt K a) g tt te vs σ D Qd H1) := by
  rcases hq with h | h
  · exact .inl ⟨⟨xs, h⟩, fun D nD => lc_list (xs := xs) (Pv D) (h0 D nD) (fun i H' _ p => (still D i H' nD p).1 h) (fun i x H' e p => turn D i x H' nD e p) (fun H' p => fin D H' nD p)⟩
  · exact .inr ⟨⟨xs, h⟩, fun D nD => lc_tup (xs := xs) (Pv D) (h0 D nD) (fun i H' _ p => (still D i H' nD p).2 h) (fun i x H' e p => turn D i x H' nD e p) (fun H' p => fin D H' nD p)⟩
theorem snoc_cases {α : Type} (l : List α) : l = [] ∨ ∃ l' x, l = l' ++ [x] := by
  rcases List.eq_nil_or_concat l with h | ⟨l', x, h⟩
  · exact .inl h
  · exact .inr ⟨l', x, by rw [h]; simp⟩
theorem _root_.GP.Prs.last {H : Hp} {us : List V} {ps : List (Int × Int)} {p : Int × Int} (h : Prs H us (ps ++ [p])) : ∃ us' T, us = us' ++ [.ref T] ∧ H T = some (.tup [.int p.1, .int p.2]) ∧ Prs H us' ps := by
  have hl := h.1
  rw [List.length_append] at hl
  rcases snoc_cases us with e | ⟨us', x, e⟩
  · rw [e] at hl
    simp at hl
  · subst e
    rw [List.length_append] at hl
    have hl' : us'.length = ps.length := Nat.add_right_cancel hl
    obtain ⟨T, e1, e2⟩ := h.2 ps.length p (by rw [List.getElem?_append_right (Nat.le_refl _), Nat.sub_self]; rfl)
    rw [List.getElem?_append_right (by omega), hl', Nat.sub_self] at e1
    refine ⟨us', T, by rw [Option.some.inj e1], e2, hl', fun i q eq => ?_⟩
    have hi : i < ps.length := (List.getElem?_eq_some_iff.mp eq).1
    obtain ⟨b, f1, f2⟩ := h.2 i q (by rw [List.getElem?_append_left hi]; exact eq)
    rw [List.getElem?_append_left (by omega)] at f1
    exact ⟨b, f1, f2⟩
/-- the pair that a tracked tuple holds -/
def pairOf (H : Hp) : V → Int × Int
  | .ref t => (match H t with
    | some (.tup [.int i, .int j]) => (i, j)
    | _ => (0, 0))
  | _ => (0, 0)
theorem pairOf_at {H : Hp} {t : Addr} {p : Int × Int} (e : H t = some (.tup [.int p.1, .int p.2])) : pairOf H (.ref t) = p := by
  show (match H t with | some (.tup [.int i, .int j]) => (i, j) | _ => (0, 0)) = p
  rw [e]
abbrev sSetOf : Stmt := topS 1
theorem scSetOf : FnScope ["pairs", "merged", "first", "last", "low", "high", "pair"] ["pairs"] (defScope sSetOf) := ⟨rfl, rfl, rfl, by decide +kernel, rfl, by decide +kernel, by decide +kernel⟩
def spSetOf (K : PySem.W.Frag) : Sp := fun vs H Q _ => ∃ (a : Addr) (us : List V) (ps : List (Int × Int)), vs = [.ref a] ∧ Sq K H a us ∧ Prs H us ps ∧ ps.length ≤ 900 ∧
  ∀ (l : Addr) (ws : List V) (rs : List (Int × Int)) H', H l = none → H' l = some (.lst ws) → Prs H' ws rs → SetLike ps rs → Same H H' → Q (.ref l) H'
section
variable {K : PySem.W.Frag} {mg : Str → Option Value} {P : Program} {w : World} {base : Heap}
theorem ok_setof {f : Addr} {fd : FuncData} {k : Nat} (F : Fun K "set_of" "set_of" sSetOf f fd) (mso : mg "sorted" = none) (mx : mg "max" = none) : FnOk P w K mg base CX0 (k + 1) f fd ["pairs"] (spSetOf K) := by
  refine F.ok scSetOf (fun vs H Q E h => ?_) (fun cdv A outer s H vs Q E hr h => ?_)
  · obtain ⟨a, us, ps, rfl, _⟩ := h
    rfl
  · obtain ⟨a, us, ps, rfl, hq, hp, hz, q⟩ := h
    refine ⟨_, pss_cons (ps_set (i := 1) scSetOf.nd rfl (.inl rfl) (pe_lst pa_nil))
      (pss_cons (ps_for PassesOwn.never rfl (pi_list (pe_callB cr_sortedPO (by rfl) mso (by decide +kernel) (pa_cons (pe_lc (own := [("pair", 6)]) (g := gName 6) (tt := tTest (tOp (rI0 fun i j => .bl (decide (i ≤ j))) (tOp (rIxT K) (tVar 6) (tC (.int 0))) (tOp (rIxT K) (tVar 6) (tC (.int 1))))) rfl scSetOf.nd (pi_seq (pv 0))
          (blkOk_by (own := [("pair", 6)]) (N := ["pairs", "merged", "first", "last", "low", "high", "pair"]) (sc := defScope sSetOf) (by decide +kernel))
          (fun _ _ _ _ _ => pg_name (i := 6) scSetOf.nd rfl (.inl rfl)) (fun _ _ _ _ _ => pts_one (pt_cmpR op_le (pe_ix ix_tup (pv 6) pe_int (fun _ _ => rfl)) (pe_ix ix_tup (pv 6) pe_int (fun _ _ => rfl)) (nomark _))) (fun _ _ _ _ _ => pv 6)) pa_nil)))
        (pg_tup rfl (pgs_cons (pg_name (i := 2) scSetOf.nd rfl (.inl rfl)) (pgs_cons (pg_name (i := 3) scSetOf.nd rfl (.inl rfl)) pgs_nil)))
        (pss_one (ps_if (PW.pt (pw_and (pt_truth (pv 1) (by intro _; rfl)) (pw_and1 (pt_cmpR op_le (pv 2) (pe_op op_add (pe_ix ix_tup (pe_ix ix_list (pv 1) (pe_un un_neg pe_int) (fun _ _ => rfl)) pe_int (fun _ _ => rfl)) pe_int) (nomark _)))))
          (pss_cons (ps_asg (pe_ix ix_list (pv 1) (pe_un un_neg pe_int) (fun _ _ => rfl)) (pg_tup rfl (pgs_cons (pg_name (i := 4) scSetOf.nd rfl (.inl rfl)) (pgs_cons (pg_name (i := 5) scSetOf.nd rfl (.inl rfl)) pgs_nil))))
          (pss_one (ps_asg (pe_tup (pa_cons (pv 4) (pa_cons (pe_callB (call_max2 rfl) (by rfl) mx (by decide +kernel) (pa_cons (pv 5) (pa_cons (pv 3) pa_nil))) pa_nil))) (pg_sub (pv 1) (pe_un un_neg pe_int) set_list))))
          (pss_one (ps_expr (pe_bm PySem.F.plainAttrs_list PySem.F.slot_list_append PySem.F.type_list_append mt_append (pv 1) (pa_cons (pe_tup (pa_cons (pv 2) (pa_cons (pv 3) pa_nil))) pa_nil)))))))
      (pss_one (ps_ret (pv 1)))), ?_⟩
    -- merged = []
    refine ⟨Nat.zero_le _, fun mg' nm => ?_⟩
    have s1 := same_upd (o := .lst []) nm
    have em1 : upd H mg' (.lst []) mg' = some (.lst []) := upd_same
    revert s1 em1
    generalize upd H mg' (.lst []) = H1
    intro s1 em1
    -- [pair for pair in pairs if ..]
    refine ⟨.ref a, rfl, a, rfl, lc_seq (xs := us) (hq.same s1) (fun D i H' => Same H1 H' ∧ ∃ ys, H' D = some (.lst ys) ∧ Prs H' ys ((ps.take i).filter fun p => decide (p.1 ≤ p.2)) ∧ ys.length ≤ i) (fun D nD => ⟨same_upd nD, [], upd_same, Prs.nil, Nat.le_refl _⟩)
      (fun D i H' nD hP => SqTo.same hP.1) (fun D i x H' nD hx hP => ?_) (fun D H2 nD hP => ?_)⟩
    · obtain ⟨sm, ys, eD, hys, hyl⟩ := hP
      obtain ⟨p, T, ep, rfl, eT⟩ := prs_at hp hx
      have hi : i < us.length := (List.getElem?_eq_some_iff.mp hx).1
      rw [hp.1] at hi
      have eT' := sm _ _ (s1 _ _ eT)
      refine ⟨rfl, _, rfl, T, _, 0, .int p.1, rfl, rfl, .inl (.inl eT'), atI_nat (j := 0) rfl, _, rfl, T, _, 1, .int p.2, rfl, rfl, .inl (.inl eT'), atI_nat (j := 1) rfl, p.1, p.2, rfl, rfl, _, rfl, ?_⟩
      have etake : (ps.take (i + 1)).filter (fun p => decide (p.1 ≤ p.2)) = (ps.take i).filter (fun p => decide (p.1 ≤ p.2)) ++ (if p.1 ≤ p.2 then [p] else []) := by
        rw [List.take_add_one, ep, List.filter_append]
        by_cases c : p.1 ≤ p.2
        · rw [if_pos c]; simp [c]
        · rw [if_neg c]; simp [c]
      refine ite2 (fun c => ?_) (fun c => ?_)
      · have c' := of_decide_eq_true c
        refine ⟨_, rfl, ys, eD, small1000 (by omega), fun b o e => ?_, _, upd_same, ?_, by rw [List.length_append]; show ys.length + 1 ≤ i + 1; omega⟩
        · rw [upd_ne (ne_of_none e nD)]
          exact sm b o e
        · rw [etake, if_pos c']
          exact (hys.snoc eT').upd_lst eD
      · have c' : ¬ p.1 ≤ p.2 := fun z => c (decide_eq_true z)
        refine ⟨sm, ys, eD, ?_, by omega⟩
        rw [etake, if_neg c', List.append_nil]
        exact hys
    · -- sorted
      obtain ⟨sm, ys, eD, hys, hyl⟩ := hP
      rw [hp.1, List.take_length] at hys
      refine ⟨D, ys, pairOf H2, rfl, SqL.of eD, fun x hx => ?_, fun zs g srt stb ng => ?_⟩
      · obtain ⟨i, hi, e⟩ := List.getElem_of_mem hx
        obtain ⟨p, T, _, rfl, eT⟩ := prs_at hys (by rw [List.getElem?_eq_getElem hi, e])
        exact ⟨T, rfl, by rw [pairOf_at eT]; exact eT⟩
      have sg := same_upd (o := .lst zs) ng
      have eg : upd H2 g (.lst zs) g = some (.lst zs) := upd_same
      have s3 : Same H (upd H2 g (.lst zs)) := (s1.trans sm).trans sg
      have em3 := sg _ _ (sm _ _ em1)
      -- the pairs of zs
      have each : ∀ x ∈ zs, ∃ T, x = .ref T ∧ H2 T = some (.tup [.int (pairOf H2 x).1, .int (pairOf H2 x).2]) := fun x hx => by
        obtain ⟨i, hi, e⟩ := List.getElem_of_mem (stb.perm.mem_iff.mp hx)
        obtain ⟨p, T, _, rfl, eT⟩ := prs_at hys (by rw [List.getElem?_eq_getElem hi, e])
        exact ⟨T, rfl, by rw [pairOf_at eT]; exact eT⟩
      have hzs : Prs H2 zs (zs.map (pairOf H2)) := ⟨by rw [List.length_map], fun i p e => by
        rw [List.getElem?_map] at e
        cases h : zs[i]? with
        | none => rw [h] at e; cases e
        | some x =>
          rw [h] at e
          cases e
          obtain ⟨T, rfl, eT⟩ := each x (List.mem_of_getElem? h)
          exact ⟨T, rfl, eT⟩⟩
      have hmap : ys.map (pairOf H2) = ps.filter fun p => decide (p.1 ≤ p.2) := by
        refine List.ext_getElem? fun i => ?_
        rw [List.getElem?_map]
        cases h : ys[i]? with
        | none =>
          have : (ps.filter fun p => decide (p.1 ≤ p.2))[i]? = none := by
            rw [List.getElem?_eq_none_iff] at h ⊢
            rw [← hys.1]
            exact h
          rw [this]
          rfl
        | some x =>
          obtain ⟨p, T, ep, rfl, eT⟩ := prs_at hys h
          rw [ep]
          show some (pairOf H2 (.ref T)) = some p
          rw [pairOf_at eT]
      have hperm : (zs.map (pairOf H2)).Perm (ps.filter fun p => decide (p.1 ≤ p.2)) := hmap ▸ stb.perm.map (pairOf H2)
      have hle : ∀ p ∈ zs.map (pairOf H2), p.1 ≤ p.2 := fun p hp' => by
        have := hperm.mem_iff.mp hp'
        exact of_decide_eq_true (List.mem_filter.mp this).2
      have hord : (zs.map (pairOf H2)).Pairwise fun x y => x.1 ≤ y.1 := by
        rw [List.pairwise_map]
        refine srt.imp fun {x y} h => ?_
        have := SrtO.lexB_no.mp h
        omega
      have hzl : zs.length ≤ 900 := by
        rw [stb.perm.length_eq, hys.1]
        exact Nat.le_trans (List.length_filter_le _ _) hz
      revert hzs hperm hle hord
      generalize zs.map (pairOf H2) = qs
      intro hzs hperm hle hord
      have hzs3 := hzs.same sg
      revert eg s3 em3 hzs3
      generalize upd H2 g (.lst zs) = H3
      intro eg s3 em3 hzs3
      have ngH : H g = none := (s1.trans sm).free ng
      have nmg : mg' ≠ g := ne_of_none (sm _ _ em1) ng
      -- the merging
      refine ⟨g, rfl, ⟨_, SqL.of eg⟩, for_list (xs := zs) (fun i σ H4 => ∃ (ms : List V) (rs : List (Int × Int)) (y2 y3 y4 y5 y6 : Option V), σ = [some (.ref a), some (.ref mg'), y2, y3, y4, y5, y6] ∧ Same H H4 ∧ H4 g = some (.lst zs) ∧ Prs H4 zs qs ∧ H4 mg' = some (.lst ms) ∧ Prs H4 ms rs ∧ Mrg (qs.take i) rs)
        ⟨[], [], _, _, _, _, _, rfl, s3, eg, hzs3, em3, Prs.nil, Mrg.nil⟩ (fun i σ H4 _ hP => ?_) (fun i x σ H4 hx hP => ?_) (fun σ H4 hP => ?_)⟩
      · obtain ⟨_, _, _, _, _, _, _, rfl, _, e, _⟩ := hP
        exact SqL.of e
      · obtain ⟨ms, rs, y2, y3, y4, y5, y6, rfl, sm4, eg4, hz4, em4, hms, m⟩ := hP
        obtain ⟨p, T, ep, rfl, eT⟩ := prs_at hz4 hx
        have hi : i < qs.length := (List.getElem?_eq_some_iff.mp ep).1
        have hp12 : p.1 ≤ p.2 := hle p (List.mem_of_getElem? ep)
        have ord : ∀ q ∈ qs.take i, q.1 ≤ p.1 := fun q hq' => by
          obtain ⟨j, hj, e⟩ := List.getElem_of_mem hq'
          rw [List.length_take] at hj
          rw [List.getElem_take] at e
          obtain ⟨_, e2⟩ := List.getElem?_eq_some_iff.mp ep
          rw [← e, ← e2]
          exact List.pairwise_iff_getElem.mp hord j i (by omega) hi (by omega)
        have etake : qs.take (i + 1) = qs.take i ++ [p] := by rw [List.take_add_one, ep]; rfl
        have hmsl : ms.length ≤ 900 := by
          have := m.len
          rw [List.length_take] at this
          have := hzs.1
          rw [hms.1]
          omega
        refine ⟨T, _, rfl, .inl (.inl eT), rfl, _, _, rfl, _, _, rfl, rfl, ?_⟩
        -- what a new tuple and a change of merged leave
        have grow : ∀ (T2 : Addr) (p2 : Int × Int) (ms2 : List V) (rs2 : List (Int × Int)), H4 T2 = none → Prs (upd H4 T2 (.tup [.int p2.1, .int p2.2])) ms2 rs2 →
            Same H (upd (upd H4 T2 (.tup [.int p2.1, .int p2.2])) mg' (.lst ms2)) ∧ upd (upd H4 T2 (.tup [.int p2.1, .int p2.2])) mg' (.lst ms2) g = some (.lst zs) ∧ Prs (upd (upd H4 T2 (.tup [.int p2.1, .int p2.2])) mg' (.lst ms2)) zs qs ∧ upd (upd H4 T2 (.tup [.int p2.1, .int p2.2])) mg' (.lst ms2) mg' = some (.lst ms2) ∧ Prs (upd (upd H4 T2 (.tup [.int p2.1, .int p2.2])) mg' (.lst ms2)) ms2 rs2 := by
          intro T2 p2 ms2 rs2 n2 h2
          have st := same_upd (o := .tup [.int p2.1, .int p2.2]) n2
          have em5 := st _ _ em4
          refine ⟨fun b o e => ?_, ?_, (hz4.same st).upd_lst em5, upd_same, h2.upd_lst em5⟩
          · rw [upd_ne (ne_of_none e nm)]
            exact st _ _ (sm4 _ _ e)
          · rw [upd_ne nmg.symm]
            exact st _ _ eg4
        -- append
        have app : (∀ r ∈ rs, r.2 + 2 ≤ p.1) → (tDrop (tBM K "list" rAppend (tVar 1) (tCons (tTup (tCons (tVar 2) (tCons (tVar 3) tNil))) tNil))) { nx := fun σ H4 => ∃ (ms : List V) (rs : List (Int × Int)) (y2 y3 y4 y5 y6 : Option V), σ = [some (.ref a), some (.ref mg'), y2, y3, y4, y5, y6] ∧ Same H H4 ∧ H4 g = some (.lst zs) ∧ Prs H4 zs qs ∧ H4 mg' = some (.lst ms) ∧ Prs H4 ms rs ∧ Mrg (qs.take (i + 1)) rs, rt := fun _ _ => False } [some (.ref a), some (.ref mg'), some (.int p.1), some (.int p.2), y4, y5, y6] H4 := by
          intro far
          refine ⟨.ref mg', rfl, .inl ⟨rfl, _, SqL.of em4⟩, _, rfl, _, rfl, (by show 2 ≤ sizeLine; decide), fun T2 n2 => ?_⟩
          have st := same_upd (o := .tup [.int p.1, .int p.2]) n2
          refine ⟨mg', _, _, rfl, rfl, st _ _ em4, small1000 (by omega), ?_⟩
          obtain ⟨g1, g2, g3, g4, g5⟩ := grow T2 p (ms ++ [.ref T2]) (rs ++ [p]) n2 ((hms.same st).snoc upd_same)
          exact ⟨_, _, _, _, _, _, _, rfl, g1, g2, g3, g4, g5, by rw [etake]; exact m.new hp12 ord far⟩
        rcases snoc_cases rs with e0 | ⟨rs', ⟨lo, hi'⟩, e0⟩
        · have e1 : ms = [] := List.eq_nil_of_length_eq_zero (by rw [hms.1, e0]; rfl)
          have em0 : H4 mg' = some (.lst []) := by rw [em4, e1]
          refine ⟨.ref mg', rfl, false, .inl ⟨[], SqL.of em0, rfl⟩, iteF (iteF ?_)⟩
          exact app (by rw [e0]; exact fun _ z => nomatch z)
        · subst e0
          obtain ⟨ms', T0, rfl, eT0, hms'⟩ := hms.last
          refine ⟨.ref mg', rfl, true, .inl ⟨_, SqL.of em4, by simp⟩, iteT ?_⟩
          refine ⟨_, rfl, .ref mg', rfl, 1, rfl, mg', _, -1, .ref T0, rfl, rfl, SqL.of em4, atI_last _ _, T0, _, 1, .int hi', rfl, rfl, .inl (.inl eT0), atI_nat (j := 1) rfl, hi', 1, rfl, rfl, p.1, _, rfl, rfl, _, rfl, ite2 (fun c => ?_) (fun c => ?_)⟩
          · have c' := of_decide_eq_true c
            refine ⟨.ref mg', rfl, 1, rfl, mg', _, -1, .ref T0, rfl, rfl, SqL.of em4, atI_last _ _, T0, _, rfl, .inl (.inl eT0), rfl, _, _, rfl, _, _, rfl, rfl, ?_⟩
            refine ⟨_, rfl, _, rfl, _, rfl, hi', p.2, rfl, (by show 2 ≤ sizeLine; decide), fun T2 n2 => ?_⟩
            have st := same_upd (o := .tup [.int lo, .int (if p.2 > hi' then p.2 else hi')]) n2
            have ei : ixN (ms' ++ [V.ref T0]).length (-1) = some ms'.length := by
              unfold ixN
              rw [if_neg (by decide), List.length_append, if_pos (by show -((ms'.length + 1 : Nat) : Int) ≤ -1; omega)]
              show some ((-1 : Int) + ((ms'.length + 1 : Nat) : Int)).toNat = _
              congr 1
              omega
            refine ⟨.ref mg', rfl, 1, rfl, mg', _, -1, ms'.length, rfl, rfl, st _ _ em4, ei, ?_⟩
            have es : (ms' ++ [V.ref T0]).set ms'.length (.ref T2) = ms' ++ [.ref T2] := by simp
            rw [es]
            obtain ⟨g1, g2, g3, g4, g5⟩ := grow T2 (lo, if p.2 > hi' then p.2 else hi') (ms' ++ [.ref T2]) (rs' ++ [(lo, if p.2 > hi' then p.2 else hi')]) n2 ((hms'.same st).snoc upd_same)
            exact ⟨_, _, _, _, _, _, _, rfl, g1, g2, g3, g4, g5, by rw [etake]; exact m.join hp12 ord c'⟩
          · have c' : ¬ p.1 ≤ hi' + 1 := fun z => c (decide_eq_true z)
            refine app fun r hr' => ?_
            obtain ⟨lo', hR⟩ := m.ris
            obtain ⟨_, h2, _, h4⟩ := Ris.front hR
            have h4' : lo ≤ hi' := h4
            rcases List.mem_append.mp hr' with y | y
            · have : r.2 + 2 ≤ lo := h2 r y
              omega
            · rw [List.mem_singleton.mp y]
              show hi' + 2 ≤ p.1
              omega
      · obtain ⟨ms, rs, y2, y3, y4, y5, y6, rfl, sm4, eg4, hz4, em4, hms, m⟩ := hP
        rw [hzs.1, List.take_length] at m
        refine ⟨_, rfl, q mg' ms rs H4 nm em4 hms ⟨m.ris, m.same.trans fun n => ?_, Nat.le_trans m.len (Nat.le_trans (Nat.le_of_eq hperm.length_eq) (List.length_filter_le _ _))⟩ sm4⟩
        constructor
        · rintro ⟨r, hr', e⟩
          exact ⟨r, (List.mem_filter.mp (hperm.mem_iff.mp hr')).1, e⟩
        · rintro ⟨r, hr', e⟩
          exact ⟨r, hperm.mem_iff.mpr (List.mem_filter.mpr ⟨hr', decide_eq_true (by omega)⟩), e⟩
end

abbrev sIsSet : Stmt := topS 7
theorem scIsSet : FnScope ["_law_thing", "_law_pair", "_law_one", "_law_other"] ["_law_thing"] (defScope sIsSet) := ⟨rfl, rfl, rfl, by decide +kernel, rfl, by decide +kernel, by decide +kernel⟩
def spIsSet : Sp := fun vs H Q _ => ∃ (l : Addr) (us : List V) (rs : List (Int × Int)), vs = [.ref l] ∧ H l = some (.lst us) ∧ Prs H us rs ∧ Ris 0 rs ∧ rs.length ≤ 900 ∧ ∀ H', Same H H' → Q (.bl true) H'
theorem all_true (n : Nat) : (List.replicate n true).all id = true := by
  rw [List.all_eq_true]
  intro b hb
  exact (List.mem_replicate.mp hb).2
theorem Ris.gap : ∀ {lo : Int} {rs : List (Int × Int)} {i : Nat} {p q : Int × Int}, Ris lo rs → rs[i]? = some p → rs[i + 1]? = some q → p.2 + 1 < q.1
  | _, [], _, _, _, _, e, _ => nomatch e
  | _, [_], 0, _, _, _, _, e => nomatch e
  | lo, a :: b :: r, 0, p, q, h, e1, e2 => by
    cases e1
    cases e2
    have := h.2.2.1
    omega
  | lo, a :: r, i + 1, p, q, h, e1, e2 => Ris.gap (i := i) h.2.2 e1 e2
section
variable {K : PySem.W.Frag} {mg : Str → Option Value} {P : Program} {w : World} {base : Heap}
theorem ok_isset {f : Addr} {fd : FuncData} {k : Nat} (F : Fun K "_law_is_set" "_law_is_set" sIsSet f fd) (mi : mg "isinstance" = none) (ml : mg "list" = none) (mt : mg "tuple" = none) (mn : mg "int" = none) (mb : mg "bool" = none) (me : mg "len" = none) (ma : mg "all" = none) (mz : mg "zip" = none) :
    FnOk P w K mg base CX0 (k + 1) f fd ["_law_thing"] spIsSet := by
  refine F.ok scIsSet (fun vs H Q E h => ?_) (fun cdv A outer s H vs Q E hr h => ?_)
  · obtain ⟨l, us, rs, rfl, _⟩ := h
    rfl
  · obtain ⟨l, us, rs, rfl, hl, hp, hris, hlen, q⟩ := h
    refine ⟨_, pss_cons (ps_if (pt_not (pt_val (pe_callB call_isi (by rfl) mi (by decide +kernel) (pa_cons (pv 0) (pa_cons (pe_bltn (v := .ty "list") (by rfl) ml (by decide +kernel) rfl) pa_nil))))) (pss_one (ps_ret pe_bl)) pss_nil)
      (pss_cons (ps_for PassesOwn.never rfl (pi_list (pv 0)) (pg_name (i := 1) scIsSet.nd rfl (.inl rfl))
        (pss_cons (ps_if (PW.pt (pw_or (pt_not (pt_val (pe_callB call_isi (by rfl) mi (by decide +kernel) (pa_cons (pv 1) (pa_cons (pe_bltn (v := .ty "tuple") (by rfl) mt (by decide +kernel) rfl) pa_nil))))) (pw_or1 (pt_cmpR op_ne (pe_callB call_len_seq (by rfl) me PySem.boot_len (pa_cons (pv 1) pa_nil)) pe_int (nomark _))))) (pss_one (ps_ret pe_bl)) pss_nil)
        (pss_cons (ps_if (pt_not (pt_val (pe_callB (cr_all rfl) (by rfl) ma (by decide +kernel) (pa_cons (pe_lc (own := [("_law_one", 2)]) (g := gName 2) (tt := tYes) (te := tAndV (tCB (rIsi K) (tCons (tVar 2) (tCons (tC (.ty "int")) tNil))) (tAndV (tNotV (tCB (rIsi K) (tCons (tVar 2) (tCons (tC (.ty "bool")) tNil)))) (tOp (rI0 fun i j => .bl (decide (j ≤ i))) (tVar 2) (tC (.int 0))))) rfl scIsSet.nd (pi_tup (pv 1))
              (blkOk_by (own := [("_law_one", 2)]) (N := ["_law_thing", "_law_pair", "_law_one", "_law_other"]) (sc := defScope sIsSet) (by decide +kernel)) (fun _ _ _ _ _ => pg_name (i := 2) scIsSet.nd rfl (.inl rfl)) (fun _ _ _ _ _ => pts_nil)
              (fun _ _ _ _ _ => pe_and (pe_callB call_isi (by rfl) mi (by decide +kernel) (pa_cons (pv 2) (pa_cons (pe_bltn (v := .ty "int") (by rfl) mn (by decide +kernel) rfl) pa_nil))) (pe_and (pe_not (pe_callB call_isi (by rfl) mi (by decide +kernel) (pa_cons (pv 2) (pa_cons (pe_bltn (v := .ty "bool") (by rfl) mb (by decide +kernel) rfl) pa_nil)))) (pe_one (pe_cmpR op_ge (pv 2) pe_int (nomark _)))))) pa_nil)))) (pss_one (ps_ret pe_bl)) pss_nil)
        (pss_one (ps_if (pt_cmpR op_gt (pe_ix ix_tup (pv 1) pe_int (fun _ _ => rfl)) (pe_ix ix_tup (pv 1) pe_int (fun _ _ => rfl)) (nomark _)) (pss_one (ps_ret pe_bl)) pss_nil)))))
      (pss_one (ps_ret (pe_callB (cr_all rfl) (by rfl) ma (by decide +kernel) (pa_cons (pe_lc (own := [("_law_one", 2), ("_law_other", 3)]) (g := gTup K 2 (gCons (gName 2) (gCons (gName 3) gNil))) (tt := tYes) (te := tOp (rI0 fun i j => .bl (decide (i < j))) (tOp (rI0 fun i j => .int (i + j)) (tOp (rIxT K) (tVar 2) (tC (.int 1))) (tC (.int 1))) (tOp (rIxT K) (tVar 3) (tC (.int 0)))) rfl scIsSet.nd (pi_zip (by rfl) mz (pa_cons (pv 0) (pa_cons (pe_slice sl_list (pv 0) (po_some pe_int) po_none) pa_nil)))
          (blkOk_by (own := [("_law_one", 2), ("_law_other", 3)]) (N := ["_law_thing", "_law_pair", "_law_one", "_law_other"]) (sc := defScope sIsSet) (by decide +kernel)) (fun _ _ _ _ _ => pg_tup rfl (pgs_cons (pg_name (i := 2) scIsSet.nd rfl (.inl rfl)) (pgs_cons (pg_name (i := 3) scIsSet.nd rfl (.inl rfl)) pgs_nil))) (fun _ _ _ _ _ => pts_nil)
          (fun _ _ _ _ _ => pe_cmpR op_lt (pe_op op_add (pe_ix ix_tup (pv 2) pe_int (fun _ _ => rfl)) pe_int) (pe_ix ix_tup (pv 3) pe_int (fun _ _ => rfl)) (nomark _))) pa_nil))))), ?_⟩
    refine ⟨_, rfl, _, _, .type "list", .type "list", true, rfl, .ty _, .base (.lst hl), kit_ty (by decide +kernel), _, rfl, iteF ?_⟩
    refine ⟨.ref l, rfl, l, rfl, ⟨_, SqL.of hl⟩, for_list (xs := us) (fun i σ H1 => ∃ (y1 y2 y3 : Option V), σ = [some (.ref l), y1, y2, y3] ∧ Same H H1) ⟨_, _, _, rfl, Same.refl H⟩ (fun i σ H1 _ hP => ?_) (fun i x σ H1 hx hP => ?_) (fun σ H1 hP => ?_)⟩
    · obtain ⟨_, _, _, rfl, sm⟩ := hP
      exact SqL.of (sm _ _ hl)
    · obtain ⟨y1, y2, y3, rfl, sm⟩ := hP
      obtain ⟨p, T, ep, rfl, eT0⟩ := prs_at hp hx
      have eT := sm _ _ eT0
      have hle := hris.le p (List.mem_of_getElem? ep)
      refine ⟨_, rfl, _, _, .type "tuple", .type "tuple", true, rfl, .ty _, .base (.tup eT), kit_ty (by decide +kernel), _, rfl, iteF ?_⟩
      refine ⟨_, rfl, T, _, rfl, .inr (.inl (.inl eT)), rfl, _, rfl, iteF ?_⟩
      refine ⟨_, rfl, T, rfl, ⟨_, .inl (.inl eT)⟩, fun D nD => lc_tup (xs := [.int p.1, .int p.2]) (fun j H' => Same H1 H' ∧ H' D = some (.lst ((List.replicate j true).map V.bl))) ⟨same_upd nD, upd_same⟩ (fun j H' _ hP => .inl (.inl (hP.1 _ _ eT))) (fun j x H' hx hP => ?_) (fun H2 hP => ?_)⟩
      · obtain ⟨sm', eD⟩ := hP
        have hj : j < 2 := (List.getElem?_eq_some_iff.mp hx).1
        obtain ⟨v, rfl, v0⟩ : ∃ v : Int, x = .int v ∧ 0 ≤ v := by
          have : j = 0 ∨ j = 1 := by omega
          rcases this with rfl | rfl
          · exact ⟨p.1, (Option.some.inj hx).symm, hle.1⟩
          · exact ⟨p.2, (Option.some.inj hx).symm, by omega⟩
        refine ⟨rfl, _, rfl, _, _, .type "int", .type "int", true, rfl, .ty _, .base (.int v), kit_ty (by decide +kernel), _, rfl, iteT ?_⟩
        refine ⟨_, rfl, _, _, .type "int", .type "bool", false, rfl, .ty _, .base (.int v), kit_ty (by decide +kernel), _, rfl, _, rfl, iteT ?_⟩
        refine ⟨_, rfl, v, 0, rfl, rfl, ?_⟩
        dsimp only
        rw [decide_eq_true v0]
        refine ⟨_, eD, small1000 ?_, fun b o e => ?_, ?_⟩
        · rw [List.length_map, List.length_replicate]
          omega
        · rw [upd_ne (ne_of_none e nD)]
          exact sm' b o e
        · rw [upd_same, List.replicate_succ', List.map_append]
          rfl
      · obtain ⟨sm', eD⟩ := hP
        refine ⟨D, List.replicate 2 true, rfl, SqL.of eD, _, rfl, ?_⟩
        rw [all_true]
        refine iteF ?_
        have eT2 := sm' _ _ eT
        refine ⟨_, rfl, T, _, 0, .int p.1, rfl, rfl, .inl (.inl eT2), atI_nat (j := 0) rfl, _, rfl, T, _, 1, .int p.2, rfl, rfl, .inl (.inl eT2), atI_nat (j := 1) rfl, p.1, p.2, rfl, rfl, _, rfl, ?_⟩
        dsimp only
        rw [decide_eq_false (show ¬ p.2 < p.1 by omega)]
        exact iteF ⟨_, _, _, rfl, sm.trans sm'⟩
    · obtain ⟨y1, y2, y3, rfl, sm⟩ := hP
      refine ⟨.ref l, rfl, .ref l, rfl, 1, rfl, l, us, rfl, SqL.of (sm _ _ hl), fun c nc => ?_⟩
      have sc' := same_upd (o := .lst (cutV us (some 1) none)) nc
      have ecut : cutV us (some 1) none = us.drop 1 := by
        unfold cutV
        rw [show HT.sIx us.length 0 (some 1) = min 1 us.length from HT.sIx_nat us.length 0 1, HT.sIx_none]
        cases us with
        | nil => rfl
        | cons x r =>
          rw [show min 1 (x :: r).length = 1 by rw [List.length_cons]; omega]
          show List.take ((x :: r).length - 1) r = r
          rw [List.length_cons, Nat.add_sub_cancel]
          exact List.take_length
      have ec : upd H1 c (.lst (cutV us (some 1) none)) c = some (.lst (us.drop 1)) := by rw [upd_same, ecut]
      have s2 := sm.trans sc'
      revert ec s2
      generalize upd H1 c (.lst (cutV us (some 1) none)) = H2
      intro ec s2
      refine ⟨l, c, us, us.drop 1, rfl, SqL.of (s2 _ _ hl), SqL.of ec, fun D nD => lc_it (walk_zip (K := K) (a := l) (b := c) (xs := us) (ys := us.drop 1) (n := us.length - 1) (by rw [List.length_drop]; omega)) (fun j H' => Same H2 H' ∧ H' D = some (.lst ((List.replicate j true).map V.bl))) ⟨same_upd nD, upd_same⟩
        (fun j H' _ hP => ⟨SqL.of (hP.1 _ _ (s2 _ _ hl)), SqL.of (hP.1 _ _ ec)⟩) (fun j x H' H'' hj hP hy => ?_) (fun H3 hP => ?_)⟩
      · obtain ⟨sm', eD⟩ := hP
        obtain ⟨T, x1, x2, rfl, nT, rfl, f1, f2⟩ := hy
        have f2' : us[j + 1]? = some x2 := by
          have z : (us.drop 1)[j]? = some x2 := f2
          rw [List.getElem?_drop, Nat.add_comm] at z
          exact z
        obtain ⟨p1, T1, ep1, rfl, eT1⟩ := prs_at hp f1
        obtain ⟨p2, T2, ep2, rfl, eT2⟩ := prs_at hp f2'
        have st := same_upd (o := .tup [.ref T1, .ref T2]) nT
        have g1 := st _ _ (sm' _ _ (s2 _ _ eT1))
        have g2 := st _ _ (sm' _ _ (s2 _ _ eT2))
        refine ⟨T, _, rfl, .inl (.inl upd_same), rfl, _, _, rfl, _, _, rfl, rfl, rfl, ?_⟩
        refine ⟨_, rfl, T1, _, 1, .int p1.2, rfl, rfl, .inl (.inl g1), atI_nat (j := 1) rfl, p1.2, 1, rfl, rfl, _, rfl, T2, _, 0, .int p2.1, rfl, rfl, .inl (.inl g2), atI_nat (j := 0) rfl, _, p2.1, rfl, rfl, ?_⟩
        dsimp only
        rw [decide_eq_true (hris.gap ep1 ep2)]
        refine ⟨_, st _ _ eD, small1000 ?_, fun b o e => ?_, ?_⟩
        · rw [List.length_map, List.length_replicate]
          have := hp.1
          omega
        · rw [upd_ne (ne_of_none e nD)]
          exact st _ _ (sm' b o e)
        · rw [upd_same, List.replicate_succ', List.map_append]
          rfl
      · obtain ⟨sm', eD⟩ := hP
        refine ⟨D, List.replicate (us.length - 1) true, rfl, SqL.of eD, ?_⟩
        rw [all_true]
        exact q _ (s2.trans sm')
end

abbrev sHas : Stmt := topS 6
theorem scHas : FnScope ["_law_pairs_here", "_law_number_here", "_law_first", "_law_last"] ["_law_pairs_here", "_law_number_here"] (defScope sHas) := ⟨rfl, rfl, rfl, by decide +kernel, rfl, by decide +kernel, by decide +kernel⟩
def spHas : Sp := fun vs H Q _ => ∃ (l : Addr) (us : List V) (ps : List (Int × Int)) (n : Int), vs = [.ref l, .int n] ∧ H l = some (.lst us) ∧ Prs H us ps ∧ ps.length ≤ 1000 ∧ ∀ H', Same H H' → Q (.bl (anyP (inB n) ps)) H'
section
variable {K : PySem.W.Frag} {mg : Str → Option Value} {P : Program} {w : World} {base : Heap}
theorem ok_has {f : Addr} {fd : FuncData} {k : Nat} (F : Fun K "_law_has" "_law_has" sHas f fd) (ma : mg "any" = none) : FnOk P w K mg base CX0 (k + 1) f fd ["_law_pairs_here", "_law_number_here"] spHas := by
  refine F.ok scHas (fun vs H Q E h => ?_) (fun cdv A outer s H vs Q E hr h => ?_)
  · obtain ⟨l, us, ps, n, rfl, _⟩ := h
    rfl
  · obtain ⟨l, us, ps, n, rfl, hl, hp, hz, q⟩ := h
    refine ⟨_, pss_one (ps_ret (pe_callB (cr_any rfl) (by rfl) ma (by decide +kernel) (pa_cons (pe_lc (own := [("_law_first", 2), ("_law_last", 3)]) (g := gTup K 2 (gCons (gName 2) (gCons (gName 3) gNil))) (tt := tYes) rfl scHas.nd (pi_list (pv 0)) (blkOk_by (own := [("_law_first", 2), ("_law_last", 3)]) (N := ["_law_pairs_here", "_law_number_here", "_law_first", "_law_last"]) (sc := defScope sHas) (by decide +kernel))
      (fun _ _ _ _ _ => pg_tup rfl (pgs_cons (pg_name (i := 2) scHas.nd rfl (.inl rfl)) (pgs_cons (pg_name (i := 3) scHas.nd rfl (.inl rfl)) pgs_nil))) (fun _ _ _ _ _ => pts_nil)
      (fun _ _ _ _ _ => pe_and (pe_cmpR op_le (pv 2) (pv 1) (nomark _)) (pe_one (pe_cmpR op_le (pv 1) (pv 3) (nomark _))))) pa_nil))), ?_⟩
    refine ⟨.ref l, rfl, l, rfl, ⟨_, SqL.of hl⟩, fun D nD => lc_list (xs := us) (fun i H' => Same H H' ∧ H' D = some (.lst ((ps.take i).map fun p => V.bl (inB n p.1 p.2)))) ⟨same_upd nD, upd_same⟩ (fun i H' _ hP => SqL.of (hP.1 _ _ hl)) (fun i x H' hx hP => ?_) (fun H' hP => ?_)⟩
    · obtain ⟨p, T, ep, rfl, eT⟩ := prs_at hp hx
      obtain ⟨sm, eD⟩ := hP
      refine ⟨T, _, rfl, .inl (.inl (sm _ _ eT)), rfl, _, _, rfl, _, _, rfl, rfl, rfl, ?_⟩
      have turn : ∀ b : Bool, b = inB n p.1 p.2 → ∃ acc, H' D = some (.lst acc) ∧ acc.length < sizeLine ∧ Same H (upd H' D (.lst (acc ++ [.bl b]))) ∧ upd H' D (.lst (acc ++ [.bl b])) D = some (.lst ((ps.take (i + 1)).map fun p => V.bl (inB n p.1 p.2))) := by
        intro b hb
        refine ⟨_, eD, small1000 ?_, fun c o e => ?_, ?_⟩
        · rw [List.length_map, List.length_take]
          omega
        · rw [upd_ne (ne_of_none e nD)]
          exact sm c o e
        · rw [upd_same, List.take_add_one, ep, List.map_append, hb]
          rfl
      refine ⟨_, rfl, _, rfl, p.1, n, rfl, rfl, _, rfl, ite2 (fun e => ?_) (fun e => ?_)⟩
      · refine ⟨_, rfl, _, rfl, n, p.2, rfl, rfl, turn _ ?_⟩
        unfold inB
        rw [e, Bool.true_and]
      · refine turn _ ?_
        unfold inB
        rw [Bool.eq_false_iff.mpr e, Bool.false_and]
    · obtain ⟨sm, eD⟩ := hP
      rw [hp.1, List.take_length] at eD
      refine ⟨D, ps.map fun p => inB n p.1 p.2, rfl, ?_, ?_⟩
      · rw [List.map_map]
        exact SqL.of eD
      · have e : (ps.map fun p => inB n p.1 p.2).any id = anyP (inB n) ps := by
          unfold anyP
          rw [List.any_map]
          rfl
        rw [e]
        exact q H' sm
end

/-- all keys are whole numbers, at most b of them -/
def KInt (kvs : List (Key × V)) (b : Nat) : Prop := ∃ ks : List Int, kvs.map (·.1) = ks.map Sum.inl ∧ ks.length ≤ b
theorem KInt.mono {kvs : List (Key × V)} {b b' : Nat} (h : KInt kvs b) (hb : b ≤ b') : KInt kvs b' := let ⟨ks, e, l⟩ := h; ⟨ks, e, Nat.le_trans l hb⟩
theorem KInt.put {kvs : List (Key × V)} {b : Nat} (h : KInt kvs b) (k : Int) (v : V) : KInt (putK kvs (.inl k) v) (b + 1) := by
  obtain ⟨ks, e, l⟩ := h
  unfold putK
  by_cases c : (kvs.any fun kv => decide (kv.1 = Sum.inl k)) = true
  · rw [if_pos c]
    refine ⟨ks, ?_, by omega⟩
    rw [List.map_map, ← e]
    refine List.map_congr_left fun kv _ => ?_
    show (if kv.1 = Sum.inl k then (kv.1, v) else kv).1 = kv.1
    split <;> rfl
  · rw [if_neg c]
    exact ⟨ks ++ [k], by rw [List.map_append, List.map_append, e]; rfl, by rw [List.length_append]; exact Nat.add_le_add_right l 1⟩
theorem KInt.four {kvs : List (Key × V)} {b : Nat} (h : KInt kvs b) (k1 k2 k3 k4 : Int) (v : V) : KInt (mergeK kvs [(.inl k1, v), (.inl k2, v), (.inl k3, v), (.inl k4, v)]) (b + 4) := (((h.put k1 v).put k2 v).put k3 v).put k4 v
theorem KInt.length {kvs : List (Key × V)} {b : Nat} (h : KInt kvs b) : kvs.length ≤ b := by
  obtain ⟨ks, e, l⟩ := h
  have z := congrArg List.length e
  rw [List.length_map, List.length_map] at z
  omega
abbrev sProbes : Stmt := topS 8
theorem scProbes : FnScope ["_law_lists", "_law_found", "_law_pairs_here", "_law_first", "_law_last"] ["_law_lists"] (defScope sProbes) := ⟨rfl, rfl, rfl, by decide +kernel, rfl, by decide +kernel, by decide +kernel⟩
/-- some numbers, whichever: the lists are of pairs -/
def spProbes : Sp := fun vs H Q _ => ∃ (L : Addr) (ls : List (Addr × List V × List (Int × Int))), vs = [.ref L] ∧ H L = some (.lst (ls.map fun x => .ref x.1)) ∧ (∀ x ∈ ls, H x.1 = some (.lst x.2.1) ∧ Prs H x.2.1 x.2.2 ∧ x.2.2.length ≤ 100) ∧ ls.length ≤ 2 ∧
  ∀ p (ns : List Int) H', H p = none → H' p = some (.lst (ns.map V.int)) → ns.length ≤ 1000 → Same H H' → Q (.ref p) H'
section
variable {K : PySem.W.Frag} {mg : Str → Option Value} {P : Program} {w : World} {base : Heap}
theorem ok_probes {f : Addr} {fd : FuncData} {k : Nat} (F : Fun K "_law_probes" "_law_probes" sProbes f fd) (mx : mg "max" = none) (ms : mg "sorted" = none) (ml : mg "list" = none) : FnOk P w K mg base CX0 (k + 1) f fd ["_law_lists"] spProbes := by
  refine F.ok scProbes (fun vs H Q E h => ?_) (fun cdv A outer s H vs Q E hr h => ?_)
  · obtain ⟨L, ls, rfl, _⟩ := h
    rfl
  · obtain ⟨L, ls, rfl, hL, hls, hl2, q⟩ := h
    refine ⟨_, pss_cons (ps_set (i := 1) scProbes.nd rfl (.inl rfl) (pe_disp (pps_cons pe_int pe_bl pps_nil) (by rfl) (by rfl) (fun z => by cases z) (by decide)))
      (pss_cons (ps_for PassesOwn.never rfl (pi_list (pv 0)) (pg_name (i := 2) scProbes.nd rfl (.inl rfl))
        (pss_one (ps_for PassesOwn.never rfl (pi_list (pv 2)) (pg_tup rfl (pgs_cons (pg_name (i := 3) scProbes.nd rfl (.inl rfl)) (pgs_cons (pg_name (i := 4) scProbes.nd rfl (.inl rfl)) pgs_nil)))
          (pss_one (ps_expr (pe_bm PySem.F.plainAttrs_dict PySem.F.slot_dict_update PySem.F.type_dict_update (mt_update rfl) (pv 1) (pa_cons (pe_lst
            (pa_cons (pe_tup (pa_cons (pe_callB (call_max2 rfl) (by rfl) mx (by decide +kernel) (pa_cons pe_int (pa_cons (pe_op op_sub (pv 3) pe_int) pa_nil))) (pa_cons pe_bl pa_nil)))
            (pa_cons (pe_tup (pa_cons (pv 3) (pa_cons pe_bl pa_nil))) (pa_cons (pe_tup (pa_cons (pv 4) (pa_cons pe_bl pa_nil))) (pa_cons (pe_tup (pa_cons (pe_op op_add (pv 4) pe_int) (pa_cons pe_bl pa_nil))) pa_nil))))) pa_nil)))))))
      (pss_one (ps_ret (pe_callB cr_sortedI (by rfl) ms (by decide +kernel) (pa_cons (pe_callTy (call_list_dK rfl) (by rfl) ml (by decide +kernel) (pa_cons (pv 1) pa_nil)) pa_nil))))), ?_⟩
    refine fun d nd => ⟨upd_same, [(.inl 0, .bl true)], rfl, (by show 1 ≤ 15; decide), ?_⟩
    have s0 : Same H (upd (upd H d (.dK [])) d (.dK (mergeK [] [(.inl 0, .bl true)]))) := fun b o e => by
      rw [upd_ne (ne_of_none e nd), upd_ne (ne_of_none e nd)]
      exact e
    refine ⟨.ref L, rfl, L, rfl, ⟨_, SqL.of (s0 _ _ hL)⟩, for_list (xs := ls.map fun x => V.ref x.1) (fun i σ H1 => ∃ (kvs : List (Key × V)) (y2 y3 y4 : Option V), σ = [some (.ref L), some (.ref d), y2, y3, y4] ∧ Same H H1 ∧ H1 d = some (.dK kvs) ∧ KInt kvs (1 + 400 * i))
      ⟨_, none, none, none, rfl, s0, upd_same, ⟨[0], rfl, Nat.le_refl _⟩⟩ (fun i σ H1 _ hP => ?_) (fun i x σ H1 hx hP => ?_) (fun σ H1 hP => ?_)⟩
    · obtain ⟨_, _, _, _, rfl, sm, _⟩ := hP
      exact SqL.of (sm _ _ hL)
    · obtain ⟨kvs, y2, y3, y4, rfl, sm, eD, hk⟩ := hP
      obtain ⟨y, hy, rfl⟩ : ∃ y ∈ ls, x = .ref y.1 := by
        obtain ⟨hi, e⟩ := List.getElem?_eq_some_iff.mp hx
        rw [List.getElem_map] at e
        exact ⟨_, List.getElem_mem _, e.symm⟩
      have hil : i < ls.length := by
        have z := (List.getElem?_eq_some_iff.mp hx).1
        rwa [List.length_map] at z
      obtain ⟨el, hp, hlen⟩ := hls y hy
      refine ⟨.ref y.1, rfl, y.1, rfl, ⟨_, SqL.of (sm _ _ el)⟩, for_list (xs := y.2.1) (fun j σ H2 => ∃ (kvs : List (Key × V)) (y3 y4 : Option V), σ = [some (.ref L), some (.ref d), some (.ref y.1), y3, y4] ∧ Same H H2 ∧ H2 d = some (.dK kvs) ∧ KInt kvs (1 + 400 * i + 4 * j))
        ⟨kvs, _, _, rfl, sm, eD, hk⟩ (fun j σ H2 _ hP => ?_) (fun j x σ H2 hx hP => ?_) (fun σ H2 hP => ?_)⟩
      · obtain ⟨_, _, _, rfl, sm, _⟩ := hP
        exact SqL.of (sm _ _ el)
      · obtain ⟨kvs, y3, y4, rfl, sm, eD, hk⟩ := hP
        obtain ⟨p, T, ep, rfl, eT⟩ := prs_at hp hx
        have hj : j < y.2.2.length := by
          have z := (List.getElem?_eq_some_iff.mp hx).1
          rwa [hp.1] at z
        refine ⟨T, _, rfl, .inl (.inl (sm _ _ eT)), rfl, _, _, rfl, _, _, rfl, rfl, ?_⟩
        refine ⟨.ref d, rfl, ?_, _, rfl, p.1, 1, rfl, rfl, 0, _, rfl, (by show 2 ≤ sizeLine; decide), fun T1 n1 => ⟨_, rfl, (by show 2 ≤ sizeLine; decide), fun T2 n2 => ⟨_, rfl, (by show 2 ≤ sizeLine; decide), fun T3 n3 => ⟨_, rfl, p.2, 1, rfl, rfl, (by show 2 ≤ sizeLine; decide), fun T4 n4 => ⟨(by show 4 ≤ sizeLine; decide), fun z nz => ?_⟩⟩⟩⟩⟩
        · exact .inr (.inr (.inl ⟨rfl, .inl ⟨_, eD⟩⟩))
        · have t1 := same_upd (o := .tup [.int (if p.1 - 1 > 0 then p.1 - 1 else 0), .bl true]) n1
          have t2 := same_upd (o := .tup [.int p.1, .bl true]) n2
          have t3 := same_upd (o := .tup [.int p.2, .bl true]) n3
          have t4 := same_upd (o := .tup [.int (p.2 + 1), .bl true]) n4
          have tz := same_upd (o := .lst [.ref T1, .ref T2, .ref T3, .ref T4]) nz
          have eD' := tz _ _ (t4 _ _ (t3 _ _ (t2 _ _ (t1 _ _ eD))))
          refine ⟨d, z, [T1, T2, T3, T4], [(.inl _, .bl true), (.inl _, .bl true), (.inl _, .bl true), (.inl _, .bl true)], kvs, rfl, rfl, eD', upd_same,
            .cons (.inl (.inl (tz _ _ (t4 _ _ (t3 _ _ (t2 _ _ upd_same)))))) (.cons (.inl (.inl (tz _ _ (t4 _ _ (t3 _ _ upd_same))))) (.cons (.inl (.inl (tz _ _ (t4 _ _ upd_same)))) (.cons (.inl (.inl (tz _ _ upd_same))) .nil))), ?_, ?_⟩
          · have := hk.length
            exact Nat.le_of_lt (small1000 (by show kvs.length + 4 ≤ 1000; omega))
          · refine ⟨_, _, _, rfl, fun b o e => ?_, upd_same, (hk.four _ _ _ _ _).mono (by omega)⟩
            rw [upd_ne (ne_of_none e nd)]
            exact tz _ _ (t4 _ _ (t3 _ _ (t2 _ _ (t1 _ _ (sm _ _ e)))))
      · obtain ⟨kvs, y3, y4, rfl, sm, eD, hk⟩ := hP
        exact ⟨kvs, _, _, _, rfl, sm, eD, hk.mono (by rw [hp.1]; omega)⟩
    · obtain ⟨kvs, y2, y3, y4, rfl, sm, eD, hk⟩ := hP
      rw [List.length_map] at hk
      obtain ⟨ks, ek, hkl⟩ := hk
      refine ⟨.ref d, rfl, d, kvs, rfl, eD, fun g ng => ?_⟩
      have eg : (kvs.map fun kv => kV kv.1) = ks.map V.int := by
        have z : (kvs.map fun kv => kV kv.1) = (kvs.map (·.1)).map kV := by rw [List.map_map]; rfl
        rw [z, ek, List.map_map]
        rfl
      refine ⟨g, ks, rfl, SqL.of (by rw [upd_same, eg]), fun ns p perm _ np => ?_⟩
      have sg := same_upd (o := .lst (kvs.map fun kv => kV kv.1)) ng
      refine q p ns _ (sm.free (sg.free np)) upd_same ?_ ((sm.trans sg).trans (same_upd np))
      rw [perm.length_eq]
      omega
end

/-! ### pairs as data -/
def pairD (p : Int × Int) : PyData := .tuple [.int p.1, .int p.2]
theorem dp_prs {K : PySem.W.Frag} {H : Hp} : ∀ {us : List V} {ps : List (Int × Int)}, Prs H us ps → DpAll K H us (ps.map pairD)
  | [], [], _ => .nil
  | [], _ :: _, h => nomatch h.1
  | _ :: _, [], h => nomatch h.1
  | u :: us, p :: ps, h => by
    obtain ⟨a, e1, e2⟩ := h.2 0 p rfl
    have eu : u = .ref a := Option.some.inj e1
    subst eu
    refine .cons (.tup (.inl (.inl e2)) (.cons (.int _) (.cons (.int _) .nil))) (dp_prs ⟨Nat.succ.inj h.1, fun i q e => ?_⟩)
    obtain ⟨b, f1, f2⟩ := h.2 (i + 1) q e
    exact ⟨b, f1, f2⟩
theorem lay_prs : ∀ ps : List (Int × Int), PyData.canLayAll0 (ps.map pairD) = true
  | [] => by simp only [List.map_nil, PyData.canLayAll0]
  | p :: r => by
    rw [List.map_cons, PyData.canLayAll0, lay_prs r]
    simp [pairD, PyData.canLay0, PyData.canLayAll0]
theorem depth_prs : ∀ ps : List (Int × Int), PyData.depthAll (ps.map pairD) ≤ 1
  | [] => by simp only [List.map_nil, PyData.depthAll]; omega
  | p :: r => by
    rw [List.map_cons, PyData.depthAll]  -- a pair, then the rest
    have := depth_prs r
    simp [pairD, PyData.depth, PyData.depthAll]
    omega
theorem shaped_prs (ps : List (Int × Int)) : SeqAt.shaped (PyData.list (ps.map pairD)) = true := by
  unfold SeqAt.shaped
  rw [PyData.canLay0, lay_prs, PyData.depth, Bool.true_and]
  exact decide_eq_true (by have := depth_prs ps; omega)
theorem eqv_prs (ps : List (Int × Int)) : PyData.eqv (PyData.list (ps.map pairD)) (PyData.list (ps.map pairD)) = true := SeqAt.eqv_refl _ (by rw [PyData.canLay0]; exact lay_prs ps)
theorem tabG_tabbed {Pt Pu : Addr} {H H2 : Hp} (g : GxR.TabG H Pu) (x : GxR.Tabbed Pt H H2) : GxR.TabG H2 Pu := by
  by_cases e : Pu = Pt
  · rw [e]; exact x.1
  · obtain ⟨ps, h, r⟩ := g
    exact ⟨ps, by rw [x.2 _ e]; exact h, r⟩

abbrev sPairs : Stmt := topS 9
theorem scPairs : FnScope ["_law_state", "_law_kind", "_law_found", "_law_k", "_law_first", "_law_last", "_law_pick", "_law_one", "_law_some"] ["_law_state"] (defScope sPairs) := ⟨rfl, rfl, rfl, by decide +kernel, rfl, by decide +kernel, by decide +kernel⟩
def Nneg (ps : List (Int × Int)) : Prop := ∀ p ∈ ps, 0 ≤ p.1 ∧ 0 ≤ p.2
def spPairs : Sp := fun vs H Q _ => ∃ (d c : Addr) (t : Int), vs = [.ref d] ∧ StAt H d c t ∧ t + 700 < 2 ^ 60 ∧
  ∀ (l : Addr) (us : List V) (ps : List (Int × Int)) (t' : Int) H', H l = none → H' l = some (.lst us) → Prs H' us ps → Nneg ps → ps.length ≤ 40 → t ≤ t' → t' ≤ t + 700 → StAt H' d c t' → Kp d c H H' → Q (.ref l) H'
theorem eqv_prs_nil (p : Int × Int) (r : List (Int × Int)) : PyData.eqv (PyData.list ((p :: r).map pairD)) (PyData.list []) = false := by
  simp [PyData.eqv, PyData.eqvAll]
section
variable {K : PySem.W.Frag} {mg : Str → Option Value} {P : Program} {w : World} {base : Heap}
theorem ok_pairs {f : Addr} {fd : FuncData} (F : Fun K "_law_pairs" "_law_pairs" sPairs f fd) (CT : Cal P w K mg base 1 "_law_take" ["_law_state", "_law_many"] spTake) (CN : Cal P w K mg base 2 "_law_number" ["_law_state", "_law_kind"] spNumber) (mr : mg "range" = none) (me : mg "len" = none) :
    FnOk P w K mg base CX0 3 f fd ["_law_state"] spPairs := by
  refine F.ok scPairs (fun vs H Q E h => ?_) (fun cdv A outer s H vs Q E hr h => ?_)
  · obtain ⟨d, c, t, rfl, _⟩ := h
    rfl
  · obtain ⟨d, c, t, rfl, hS, ht, q⟩ := h
    have hr1 := hr.mono (show 1 ≤ 2 by decide)
    refine ⟨_, pss_cons (ps_par rfl scPairs.nd (i := 1) (j := 2) rfl rfl (by decide) rfl rfl (pa_cons (pe_own CT hr1 (by rfl) (pa_cons (pv 0) (pa_cons pe_int pa_nil))) (pa_cons (pe_lst pa_nil) pa_nil)) (by rfl))
      (pss_cons (ps_for PassesOwn.never rfl (pi_range1 rfl mr (pa_cons (pe_ix ix_list (pe_lst (pa_cons pe_int (pa_cons (pe_own CT hr1 (by rfl) (pa_cons (pv 0) (pa_cons pe_int pa_nil))) (pa_cons (pe_own CT hr1 (by rfl) (pa_cons (pv 0) (pa_cons pe_int pa_nil))) pa_nil)))) (pe_own CT hr1 (by rfl) (pa_cons (pv 0) (pa_cons pe_int pa_nil))) (fun _ _ => rfl)) pa_nil)) (pg_name (i := 3) scPairs.nd rfl (.inl rfl))
        (pss_cons (ps_set (i := 4) scPairs.nd rfl (.inl rfl) (pe_ix ix_list (pe_lst (pa_cons (pe_own CT hr1 (by rfl) (pa_cons (pv 0) (pa_cons pe_int pa_nil))) (pa_cons (pe_own CN hr (by rfl) (pa_cons (pv 0) (pa_cons (pv 1) pa_nil))) pa_nil))) (pe_own CT hr1 (by rfl) (pa_cons (pv 0) (pa_cons pe_int pa_nil))) (fun _ _ => rfl)))
        (pss_cons (ps_set (i := 5) scPairs.nd rfl (.inl rfl) (pe_op op_add (pv 4) (pe_ix ix_list (pe_lst (pa_cons pe_int (pa_cons (pe_own CT hr1 (by rfl) (pa_cons (pv 0) (pa_cons pe_int pa_nil))) (pa_cons (pe_own CN hr (by rfl) (pa_cons (pv 0) (pa_cons (pv 1) pa_nil))) pa_nil)))) (pe_own CT hr1 (by rfl) (pa_cons (pv 0) (pa_cons pe_int pa_nil))) (fun _ _ => rfl))))
        (pss_cons (ps_set (i := 6) scPairs.nd rfl (.inl rfl) (pe_own CT hr1 (by rfl) (pa_cons (pv 0) (pa_cons pe_int pa_nil))))
        (Evl.pss_cut (ps_if (PW.pt (pw_and (pt_cmpR (op_neD hr.units) (pv 2) (pe_lst pa_nil) (nomark _)) (pw_and1 (pt_cmpR op_lt (pv 6) pe_int (nomark _)))))
          (pss_cons (ps_set (i := 7) scPairs.nd rfl (.inl rfl) (pe_ix ix_list (pv 2) (pe_own CT hr1 (by rfl) (pa_cons (pv 0) (pa_cons (pe_callB call_len_seq (by rfl) me PySem.boot_len (pa_cons (pv 2) pa_nil)) pa_nil))) (fun _ _ => rfl)))
          (pss_cons (ps_set (i := 8) scPairs.nd rfl (.inl rfl) (pe_lst (pa_cons (pv 7) (pa_cons (pe_tup (pa_cons (pe_op op_add (pe_ix ix_tup (pv 7) pe_int (fun _ _ => rfl)) pe_int) (pa_cons (pe_op op_add (pe_ix ix_tup (pv 7) pe_int (fun _ _ => rfl)) pe_int) pa_nil)))
            (pa_cons (pe_tup (pa_cons (pe_op op_add (pe_ix ix_tup (pv 7) pe_int (fun _ _ => rfl)) pe_int) (pa_cons (pe_op op_add (pe_ix ix_tup (pv 7) pe_int (fun _ _ => rfl)) pe_int) pa_nil)))
            (pa_cons (pe_tup (pa_cons (pe_ix ix_tup (pv 7) pe_int (fun _ _ => rfl)) (pa_cons (pe_op op_add (pe_ix ix_tup (pv 7) pe_int (fun _ _ => rfl)) pe_int) pa_nil)))
            (pa_cons (pe_tup (pa_cons (pe_op op_add (pe_ix ix_tup (pv 7) pe_int (fun _ _ => rfl)) pe_int) (pa_cons (pe_ix ix_tup (pv 7) pe_int (fun _ _ => rfl)) pa_nil))) pa_nil)))))))
          (pss_one (ps_asg (pe_ix ix_list (pv 8) (pv 6) (fun _ _ => rfl)) (pg_tup rfl (pgs_cons (pg_name (i := 4) scPairs.nd rfl (.inl rfl)) (pgs_cons (pg_name (i := 5) scPairs.nd rfl (.inl rfl)) pgs_nil))))))) pss_nil)
        (Evl.pss_cut (ps_if (pt_cmpR op_eq (pv 6) pe_int (nomark _)) (pss_one (ps_par rfl scPairs.nd (i := 4) (j := 5) rfl rfl (by decide) rfl rfl (pa_cons (pe_op op_add (pv 5) pe_int) (pa_cons (pv 4) pa_nil)) (by rfl))) pss_nil)
        (pss_one (ps_expr (pe_bm PySem.F.plainAttrs_list PySem.F.slot_list_append PySem.F.type_list_append mt_append (pv 2) (pa_cons (pe_tup (pa_cons (pv 4) (pa_cons (pv 5) pa_nil))) pa_nil))))))))))
      (pss_one (ps_ret (pv 2)))), ?_⟩
    refine ⟨.ref d, rfl, d, c, t, 3, rfl, hS, by omega, by decide, by decide, fun kd H1 k0 k1 hS1 p1 => ?_⟩
    refine ⟨Nat.zero_le _, fun l nl => ⟨_, _, rfl, ?_⟩⟩
    have sl := same_upd (o := .lst []) nl
    have hS1' := hS1.same sl
    have el1 : upd H1 l (.lst []) l = some (.lst []) := upd_same
    have P1 : Kp d c H (upd H1 l (.lst [])) := p1.trans (Kp.same d c sl)
    have nld : l ≠ d := (ne_of_none hS1.dict nl).symm
    have nlc : l ≠ c := by
      obtain ⟨cs, ec, _⟩ := hS1.cells
      exact (ne_of_none ec nl).symm
    have nlH : H l = none := by
      cases e : H l with
      | none => rfl
      | some o =>
        have := p1 l o nld nlc e
        rw [nl] at this
        cases this
    revert hS1' el1 P1
    generalize upd H1 l (.lst []) = H2
    intro hS2 el2 P2
    -- the range
    refine ⟨.ref d, rfl, d, c, _, 41, rfl, hS2, by omega, by decide, by decide, fun r3 H4 r30 r31 hS4 p4 => ?_⟩
    refine ⟨.ref d, rfl, d, c, _, 5, rfl, hS4, by omega, by decide, by decide, fun r4 H5 r40 r41 hS5 p5 => ?_⟩
    refine ⟨(by show 3 ≤ sizeLine; decide), fun z2 nz2 => ?_⟩
    have sz2 := same_upd (o := .lst [.int 40, .int r3, .int r4]) nz2
    refine ⟨.ref d, rfl, d, c, _, 3, rfl, hS5.same sz2, by omega, by decide, by decide, fun r5 H6 r50 r51 hS6 p6 => ?_⟩
    obtain ⟨n, ⟨n0, n1⟩, hat2⟩ := pick3 (x := 40) (y := r3) (z := r4) (fun v => 0 ≤ v ∧ v ≤ 40) r50 r51 (by decide) (by omega) (by omega)
    have el6 : H6 l = some (.lst []) := p6 l _ nld nlc (sz2 _ _ (p5 l _ nld nlc (p4 l _ nld nlc el2)))
    have P6 : Kp d c H H6 := P2.trans ((p4.trans p5).trans ((Kp.same d c sz2).trans p6))
    refine ⟨z2, _, r5, .int n, rfl, rfl, SqL.of (p6.new hS5 nz2), hat2, n, rfl, by omega, by omega, for_range (n := n.toNat) (fun i σ Hx => ∃ (us : List V) (ps : List (Int × Int)) (t' : Int) (y3 y4 y5 y6 y7 y8 : Option V), σ = [some (.ref d), some (.int kd), some (.ref l), y3, y4, y5, y6, y7, y8] ∧
        Hx l = some (.lst us) ∧ Prs Hx us ps ∧ Nneg ps ∧ ps.length = i ∧ t ≤ t' ∧ t' ≤ t + 10 + 16 * i ∧ StAt Hx d c t' ∧ Kp d c H Hx)
      ⟨[], [], _, none, none, none, none, none, none, rfl, el6, Prs.nil, (fun _ h => nomatch h), rfl, by omega, by omega, hS6, P6⟩ (fun i σ Hx hi hP => ?_) (fun σ Hx hP => ?_)⟩
    · obtain ⟨us, ps, t', y3, y4, y5, y6, y7, y8, rfl, el, hps, hnn, hlen, ht1, ht2, hSx, px⟩ := hP
      -- first
      refine ⟨.ref d, rfl, d, c, t', 30, rfl, hSx, by omega, by decide, by decide, fun a1 H7 a10 a11 hS7 p7 => ?_⟩
      refine ⟨.ref d, rfl, _, rfl, d, c, _, kd, rfl, hS7, by omega, k0, fun a2 t8 H8 a20 a21 t80 t81 hS8 p8 => ?_⟩
      refine ⟨(by show 2 ≤ sizeLine; decide), fun z3 nz3 => ?_⟩
      have sz3 := same_upd (o := .lst [.int a1, .int a2]) nz3
      refine ⟨.ref d, rfl, d, c, _, 2, rfl, hS8.same sz3, by omega, by decide, by decide, fun r6 H9 r60 r61 hS9 p9 => ?_⟩
      obtain ⟨x, x0, hat3⟩ := pick2 (x := a1) (y := a2) (fun v => 0 ≤ v) r60 r61 a10 a20
      refine ⟨z3, _, r6, .int x, rfl, rfl, SqL.of (p9.new hS8 nz3), hat3, ?_⟩
      have P9 : Kp d c Hx H9 := (p7.trans p8).trans ((Kp.same d c sz3).trans p9)
      -- last
      refine ⟨_, rfl, .ref d, rfl, d, c, _, 5, rfl, hS9, by omega, by decide, by decide, fun b1 H10 b10 b11 hS10 p10 => ?_⟩
      refine ⟨.ref d, rfl, _, rfl, d, c, _, kd, rfl, hS10, by omega, k0, fun b2 t11 H11 b20 b21 t110 t111 hS11 p11 => ?_⟩
      refine ⟨(by show 3 ≤ sizeLine; decide), fun z4 nz4 => ?_⟩
      have sz4 := same_upd (o := .lst [.int 0, .int b1, .int b2]) nz4
      refine ⟨.ref d, rfl, d, c, _, 3, rfl, hS11.same sz4, by omega, by decide, by decide, fun r7 H12 r70 r71 hS12 p12 => ?_⟩
      obtain ⟨u, u0, hat4⟩ := pick3 (x := 0) (y := b1) (z := b2) (fun v => 0 ≤ v) r70 r71 (by decide) b10 b20
      refine ⟨z4, _, r7, .int u, rfl, rfl, SqL.of (p12.new hS11 nz4), hat4, x, u, rfl, rfl, ?_⟩
      have P12 : Kp d c H9 H12 := (p10.trans p11).trans ((Kp.same d c sz4).trans p12)
      -- pick
      refine ⟨.ref d, rfl, d, c, _, 8, rfl, hS12, by omega, by decide, by decide, fun pk H13 pk0 pk1 hS13 p13 => ?_⟩
      have PB : Kp d c Hx H13 := (P9.trans P12).trans p13
      have elB : H13 l = some (.lst us) := PB l _ nld nlc el
      have hpsB : Prs H13 us ps := hps.kp hSx PB
      have PBH := px.trans PB
      have tB : t11 + 1 + 1 ≤ t + 10 + 16 * i + 15 := by omega
      -- between the two ifs
      refine ⟨fun σ HH => ∃ (x y tt : Int) (v3 v7 v8 : Option V), σ = [some (V.ref d), some (.int kd), some (.ref l), v3, some (.int x), some (.int y), some (.int pk), v7, v8] ∧ 0 ≤ x ∧ 0 ≤ y ∧ HH l = some (.lst us) ∧ Prs HH us ps ∧ t ≤ tt ∧ tt ≤ t + 10 + 16 * i + 16 ∧ StAt HH d c tt ∧ Kp d c H HH, ?_, ?_⟩
      · refine ⟨.ref l, rfl, Nat.zero_le _, fun z nz => ?_⟩
        have sz := same_upd (o := .lst []) nz
        have elz := sz _ _ elB
        have hpz := hpsB.same sz
        have hSz := hS13.same sz
        have Pz := PBH.trans (Kp.same d c sz)
        have ez : upd H13 z (.lst []) z = some (.lst []) := upd_same
        revert elz hpz hSz Pz ez
        generalize upd H13 z (.lst []) = HZ
        intro elz hpz hSz Pz ez
        have stay : ∃ (x' y tt : Int) (v3 v7 v8 : Option V), [some (V.ref d), some (.int kd), some (.ref l), some (.int (0 + (i : Int))), some (.int x), some (.int (x + u)), some (.int pk), y7, y8] = [some (V.ref d), some (.int kd), some (.ref l), v3, some (.int x'), some (.int y), some (.int pk), v7, v8] ∧ 0 ≤ x' ∧ 0 ≤ y ∧ HZ l = some (.lst us) ∧ Prs HZ us ps ∧ t ≤ tt ∧ tt ≤ t + 10 + 16 * i + 16 ∧ StAt HZ d c tt ∧ Kp d c H HZ :=
          ⟨_, _, _, _, _, _, rfl, x0, by omega, elz, hpz, by omega, by omega, hSz, Pz⟩
        refine ⟨_, _, .lst (SqL.of elz) (dp_prs hpz), .lst (SqL.of ez) .nil, shaped_prs ps, shaped_prs [], _, rfl, ?_⟩
        by_cases hnil : ps = []
        · subst hnil
          rw [show PyData.eqv (PyData.list (([] : List (Int × Int)).map pairD)) (PyData.list []) = true from eqv_prs []]
          exact iteF (iteF stay)
        · obtain ⟨p0, pr, hcons⟩ : ∃ p0 pr, ps = p0 :: pr := by
            cases ps with
            | nil => exact absurd rfl hnil
            | cons p0 pr => exact ⟨p0, pr, rfl⟩
          have ev : PyData.eqv (PyData.list (ps.map pairD)) (PyData.list []) = false := by rw [hcons]; exact eqv_prs_nil p0 pr
          rw [ev]
          have hpos : 0 < us.length := by rw [hps.1, hcons]; simp
          have hlt40 : us.length < 40 := by rw [hps.1]; omega
          refine iteT ⟨_, rfl, pk, 5, rfl, rfl, _, rfl, ite2 (fun e => ?_) (fun e => ?_)⟩
          · have e' := of_decide_eq_true e
            refine ⟨.ref l, rfl, .ref d, rfl, .ref l, rfl, l, us, rfl, .inl (SqL.of elz), d, c, _, (us.length : Int), rfl, hSz, by omega, by omega, by omega, fun r H14 r0 r1 hS14 p14 => ?_⟩
            obtain ⟨j, rfl⟩ := Int.eq_ofNat_of_zero_le r0
            have hj : j < us.length := by omega
            have el14 := p14 l _ nld nlc elz
            have hp14 := hpz.kp hSz p14
            have P14 := Pz.trans p14
            obtain ⟨p, T0, ep, eu, eT0⟩ := prs_at hp14 (List.getElem?_eq_getElem hj)
            refine ⟨l, us, (j : Int), .ref T0, rfl, rfl, SqL.of el14, atI_nat (by rw [List.getElem?_eq_getElem hj, eu]), ?_⟩
            have hp0 := hnn p (List.mem_of_getElem? ep)
            -- some = [..]
            refine ⟨_, rfl, _, rfl, T0, _, 1, .int p.2, rfl, rfl, .inl (.inl eT0), atI_nat (j := 1) rfl, p.2, 1, rfl, rfl, _, rfl, T0, _, 1, .int p.2, rfl, rfl, .inl (.inl eT0), atI_nat (j := 1) rfl, p.2, 2, rfl, rfl, (by show 2 ≤ sizeLine; decide), fun T1 n1 => ?_⟩
            have s1 := same_upd (o := .tup [.int (p.2 + 1), .int (p.2 + 2)]) n1
            have eT1 := s1 _ _ eT0
            refine ⟨_, rfl, T0, _, 1, .int p.2, rfl, rfl, .inl (.inl eT1), atI_nat (j := 1) rfl, p.2, 2, rfl, rfl, _, rfl, T0, _, 1, .int p.2, rfl, rfl, .inl (.inl eT1), atI_nat (j := 1) rfl, p.2, 2, rfl, rfl, (by show 2 ≤ sizeLine; decide), fun T2 n2 => ?_⟩
            have s2 := same_upd (o := .tup [.int (p.2 + 2), .int (p.2 + 2)]) n2
            have eT2 := s2 _ _ eT1
            refine ⟨_, rfl, T0, _, 0, .int p.1, rfl, rfl, .inl (.inl eT2), atI_nat (j := 0) rfl, _, rfl, T0, _, 1, .int p.2, rfl, rfl, .inl (.inl eT2), atI_nat (j := 1) rfl, p.2, 1, rfl, rfl, (by show 2 ≤ sizeLine; decide), fun T3 n3 => ?_⟩
            have s3 := same_upd (o := .tup [.int p.1, .int (p.2 + 1)]) n3
            have eT3 := s3 _ _ eT2
            refine ⟨_, rfl, T0, _, 0, .int p.1, rfl, rfl, .inl (.inl eT3), atI_nat (j := 0) rfl, p.1, 1, rfl, rfl, _, rfl, T0, _, 1, .int p.2, rfl, rfl, .inl (.inl eT3), atI_nat (j := 1) rfl, (by show 2 ≤ sizeLine; decide), fun T4 n4 => ?_⟩
            have s4 := same_upd (o := .tup [.int (p.1 + 1), .int p.2]) n4
            refine ⟨(by show 5 ≤ sizeLine; decide), fun z5 nz5 => ?_⟩
            have s5 := same_upd (o := .lst [.ref T0, .ref T1, .ref T2, .ref T3, .ref T4]) nz5
            have g0 := s5 _ _ (s4 _ _ eT3)
            have g1 := s5 _ _ (s4 _ _ (s3 _ _ (s2 _ _ (upd_same (H := H14) (a := T1) (o := .tup [.int (p.2 + 1), .int (p.2 + 2)])))))
            have g2 := s5 _ _ (s4 _ _ (s3 _ _ (upd_same (a := T2) (o := .tup [.int (p.2 + 2), .int (p.2 + 2)]))))
            have g3 := s5 _ _ (s4 _ _ (upd_same (a := T3) (o := .tup [.int p.1, .int (p.2 + 1)])))
            have g4 := s5 _ _ (upd_same (a := T4) (o := .tup [.int (p.1 + 1), .int p.2]))
            have sAll := (((s1.trans s2).trans s3).trans s4).trans s5
            have elA := sAll _ _ el14
            have hpA := hp14.same sAll
            have hSA := hS14.same sAll
            have PA := P14.trans (Kp.same d c sAll)
            obtain ⟨Tk, a, b, hat, eTk, ha, hb⟩ : ∃ (Tk : Addr) (a b : Int), atI [V.ref T0, V.ref T1, V.ref T2, V.ref T3, V.ref T4] pk = some (.ref Tk) ∧ upd (upd (upd (upd (upd H14 T1 (.tup [.int (p.2 + 1), .int (p.2 + 2)])) T2 (.tup [.int (p.2 + 2), .int (p.2 + 2)])) T3 (.tup [.int p.1, .int (p.2 + 1)])) T4 (.tup [.int (p.1 + 1), .int p.2])) z5 (.lst [.ref T0, .ref T1, .ref T2, .ref T3, .ref T4]) Tk = some (.tup [.int a, .int b]) ∧ 0 ≤ a ∧ 0 ≤ b := by
              have : pk = 0 ∨ pk = 1 ∨ pk = 2 ∨ pk = 3 ∨ pk = 4 := by omega
              rcases this with rfl | rfl | rfl | rfl | rfl
              · exact ⟨T0, p.1, p.2, rfl, g0, hp0.1, hp0.2⟩
              · exact ⟨T1, p.2 + 1, p.2 + 2, rfl, g1, by omega, by omega⟩
              · exact ⟨T2, p.2 + 2, p.2 + 2, rfl, g2, by omega, by omega⟩
              · exact ⟨T3, p.1, p.2 + 1, rfl, g3, by omega, by omega⟩
              · exact ⟨T4, p.1 + 1, p.2, rfl, g4, by omega, by omega⟩
            refine ⟨.ref z5, rfl, _, rfl, z5, _, pk, .ref Tk, rfl, rfl, SqL.of upd_same, hat, Tk, _, rfl, .inl (.inl eTk), rfl, _, _, rfl, _, _, rfl, rfl, ?_⟩
            exact ⟨a, b, _, _, _, _, rfl, ha, hb, elA, hpA, by omega, by omega, hSA, PA⟩
          · exact stay
      · rintro σ HH ⟨x, y, tt, v3, v7, v8, rfl, x0, y0, elH, hpsH, tt0, tt1, hSH, pH⟩
        refine ⟨fun σ HH => ∃ (x y tt : Int) (v3 v7 v8 : Option V), σ = [some (V.ref d), some (.int kd), some (.ref l), v3, some (.int x), some (.int y), some (.int pk), v7, v8] ∧ 0 ≤ x ∧ 0 ≤ y ∧ HH l = some (.lst us) ∧ Prs HH us ps ∧ t ≤ tt ∧ tt ≤ t + 10 + 16 * i + 16 ∧ StAt HH d c tt ∧ Kp d c H HH, ?_, ?_⟩
        · refine ⟨_, rfl, rfl, _, rfl, ite2 (fun e => ?_) (fun e => ?_)⟩
          · exact ⟨_, rfl, y, 1, rfl, rfl, _, rfl, _, _, rfl, y + 1, x, tt, v3, v7, v8, rfl, by omega, x0, elH, hpsH, tt0, tt1, hSH, pH⟩
          · exact ⟨x, y, tt, v3, v7, v8, rfl, x0, y0, elH, hpsH, tt0, tt1, hSH, pH⟩
        · rintro σ HH ⟨x, y, tt, v3, v7, v8, rfl, x0, y0, elH, hpsH, tt0, tt1, hSH, pH⟩
          refine ⟨.ref l, rfl, .inl ⟨rfl, _, SqL.of elH⟩, _, rfl, _, rfl, (by show 2 ≤ sizeLine; decide), fun T nT => ?_⟩
          have sT := same_upd (o := .tup [.int x, .int y]) nT
          have elT := sT _ _ elH
          refine ⟨l, _, _, rfl, rfl, elT, small1000 (by rw [hps.1]; omega), ?_⟩
          refine ⟨us ++ [.ref T], ps ++ [(x, y)], tt, _, _, _, _, _, _, rfl, upd_same, ((hpsH.same sT).snoc upd_same).upd_lst elT, fun p hp => ?_, by rw [List.length_append, hlen]; rfl, tt0, ?_, (hSH.same sT).upd nld nlc, fun b o b1 b2 e => ?_⟩
          · rcases List.mem_append.mp hp with old | new
            · exact hnn p old
            · rw [List.mem_singleton.mp new]
              exact ⟨x0, y0⟩
          · have ei : ((i + 1 : Nat) : Int) = (i : Int) + 1 := by omega
            rw [ei]
            omega
          · rw [upd_ne (ne_of_none e nlH)]
            exact sT b o (pH b o b1 b2 e)
    · obtain ⟨us, ps, t', y3, y4, y5, y6, y7, y8, rfl, el, hps, hnn, hlen, ht1, ht2, hSx, px⟩ := hP
      exact ⟨_, rfl, q l us ps t' Hx nlH el hps hnn (by omega) ht1 (by omega) hSx px⟩
end

theorem cut_back (xs : List V) (m : Nat) : cutV xs (some (m : Int)) none = xs.drop m := by
  unfold cutV
  rw [HT.sIx_none, HT.sIx_nat]
  by_cases h : m ≤ xs.length
  · rw [Nat.min_eq_left h]
    exact List.take_of_length_le (by rw [List.length_drop]; exact Nat.le_refl _)
  · rw [Nat.min_eq_right (by omega), Nat.sub_self, List.take_zero, List.drop_eq_nil_of_le (by omega)]
theorem _root_.GP.Prs.append {H : Hp} {us ws : List V} {ps qs : List (Int × Int)} (h : Prs H us ps) (h' : Prs H ws qs) : Prs H (us ++ ws) (ps ++ qs) := by
  refine ⟨by rw [List.length_append, List.length_append, h.1, h'.1], fun i p e => ?_⟩
  by_cases hi : i < ps.length
  · rw [List.getElem?_append_left hi] at e
    rw [List.getElem?_append_left (by rw [h.1]; exact hi)]
    exact h.2 i p e
  · rw [List.getElem?_append_right (by omega)] at e
    rw [List.getElem?_append_right (by rw [h.1]; omega), h.1]
    exact h'.2 _ p e
theorem _root_.GP.Prs.take {H : Hp} {us : List V} {ps : List (Int × Int)} (h : Prs H us ps) (n : Nat) : Prs H (us.take n) (ps.take n) := by
  refine ⟨by rw [List.length_take, List.length_take, h.1], fun i p e => ?_⟩
  rw [List.getElem?_take] at e ⊢
  split at e
  · rename_i hi
    rw [if_pos hi]
    exact h.2 i p e
  · cases e
theorem _root_.GP.Prs.drop {H : Hp} {us : List V} {ps : List (Int × Int)} (h : Prs H us ps) (n : Nat) : Prs H (us.drop n) (ps.drop n) := by
  refine ⟨by rw [List.length_drop, List.length_drop, h.1], fun i p e => ?_⟩
  rw [List.getElem?_drop] at e ⊢
  exact h.2 _ p e
theorem _root_.GP.Prs.reverse {H : Hp} {us : List V} {ps : List (Int × Int)} (h : Prs H us ps) : Prs H us.reverse ps.reverse := by
  refine ⟨by rw [List.length_reverse, List.length_reverse, h.1], fun i p e => ?_⟩
  have hi : i < ps.length := by
    have z := (List.getElem?_eq_some_iff.mp e).1
    rwa [List.length_reverse] at z
  rw [List.getElem?_reverse hi] at e
  rw [List.getElem?_reverse (by rw [h.1]; exact hi), h.1]
  exact h.2 _ p e
theorem SetLike.nneg {ps rs : List (Int × Int)} (h : SetLike ps rs) (hn : Nneg ps) : Ris 0 rs := by
  obtain ⟨lo, hr⟩ := h.ris
  cases rs with
  | nil => exact True.intro
  | cons p r =>
    obtain ⟨q, hq, e1, _⟩ := (h.same p.1).mp ⟨p, List.mem_cons_self .., Int.le_refl _, hr.2.1⟩
    have := (hn q hq).1
    exact ⟨by omega, hr.2.1, hr.2.2⟩
theorem SetLike.one {ps qs rs rs' : List (Int × Int)} (h : SetLike ps rs) (h' : SetLike qs rs') (e : Alike ps qs) : rs' = rs := by
  obtain ⟨lo, hr⟩ := h.ris
  obtain ⟨lo', hr'⟩ := h'.ris
  exact ris_one hr' hr ((h'.same.trans e.symm).trans h.same.symm)
theorem any_false (n : Nat) : (List.replicate n false).any id = false := by
  rw [List.any_eq_false]
  intro b hb
  rw [(List.mem_replicate.mp hb).2]
  exact Bool.false_ne_true
abbrev sLaw : Stmt := topS 10
theorem scLaw : FnScope ["_law_script", "_law_state", "_law_turn", "_law_pairs_here", "_law_handed", "_law_at", "_law_told", "_law_number_here"] ["_law_script"] (defScope sLaw) := ⟨rfl, rfl, rfl, by decide +kernel, rfl, by decide +kernel, by decide +kernel⟩
def spLaw (K : PySem.W.Frag) : Sp := fun vs H Q _ => ∃ (a : Addr) (ns : List Int), vs = [.ref a] ∧ SqL K H a (ns.map V.int) ∧ ns.length ≤ 63 ∧ ∀ H', Q (.bl true) H'
/-- what stands in a turn: the state, the pairs, what was handed in, what was told -/
structure Mid (d c l g tl : Addr) (t : Int) (us ws : List V) (ps rs : List (Int × Int)) (H : Hp) : Prop where
  st : StAt H d c t
  l : H l = some (.lst us)
  ps : Prs H us ps
  g : H g = some (.lst us) ∨ H g = some (.tup us)
  tl : H tl = some (.lst ws)
  rs : Prs H ws rs
theorem Mid.same {d c l g tl : Addr} {t : Int} {us ws : List V} {ps rs : List (Int × Int)} {H H' : Hp} (m : Mid d c l g tl t us ws ps rs H) (s : Same H H') : Mid d c l g tl t us ws ps rs H' :=
  ⟨m.st.same s, s _ _ m.l, m.ps.same s, m.g.imp (s _ _) (s _ _), s _ _ m.tl, m.rs.same s⟩
section
variable {K : PySem.W.Frag} {mg : Str → Option Value} {P : Program} {w : World} {base : Heap}
theorem ok_law {f : Addr} {fd : FuncData} (F : Fun K "law" "law" sLaw f fd)
    (CB : Cal P w K mg base 1 "_law_begin" ["_law_script"] (spBegin K)) (CT : Cal P w K mg base 1 "_law_take" ["_law_state", "_law_many"] spTake)
    (CA : Cal P w K mg base 3 "_law_pairs" ["_law_state"] spPairs) (CI : Cal P w K mg base 1 "_law_is_set" ["_law_thing"] spIsSet) (CH : Cal P w K mg base 1 "_law_has" ["_law_pairs_here", "_law_number_here"] spHas)
    (CP : Cal P w K mg base 1 "_law_probes" ["_law_lists"] spProbes) (CO : Cal P w K mg base 1 "set_of" ["pairs"] (spSetOf K))
    (mr : mg "range" = none) (ml : mg "list" = none) (mt : mg "tuple" = none) (me : mg "len" = none) (ma : mg "any" = none) :
    FnOk P w K mg base CX0 4 f fd ["_law_script"] (spLaw K) := by
  refine F.ok scLaw (fun vs H Q E h => ?_) (fun cdv A outer s H vs Q E hr h => ?_)
  · obtain ⟨a, ns, rfl, _⟩ := h
    rfl
  · obtain ⟨a, ns, rfl, hS, hlen, q⟩ := h
    have hr1 := hr.mono (show 1 ≤ 3 by decide)
    refine ⟨_, pss_cons (ps_set (i := 1) scLaw.nd rfl (.inl rfl) (pe_own CB hr1 (by rfl) (pa_cons (pv 0) pa_nil)))
      (pss_cons (ps_for PassesOwn.never rfl (pi_range1 rfl mr (pa_cons pe_int pa_nil)) (pg_name (i := 2) scLaw.nd rfl (.inl rfl))
        (pss_cons (ps_set (i := 3) scLaw.nd rfl (.inr rfl) (pe_own CA hr (by rfl) (pa_cons (pv 1) pa_nil)))
        (pss_cons (ps_par rfl scLaw.nd (i := 4) (j := 5) rfl rfl (by decide) rfl rfl (pa_cons (pe_ix ix_list (pe_lst (pa_cons (pe_callTy call_list_of (by rfl) ml (by decide +kernel) (pa_cons (pv 3) pa_nil)) (pa_cons (pe_callTy call_tuple_of (by rfl) mt (by decide +kernel) (pa_cons (pv 3) pa_nil)) pa_nil))) (pe_own CT hr1 (by rfl) (pa_cons (pv 1) (pa_cons pe_int pa_nil))) (fun _ _ => rfl))
            (pa_cons (pe_own CT hr1 (by rfl) (pa_cons (pv 1) (pa_cons (pe_op op_add (pe_callB call_len_seq (by rfl) me PySem.boot_len (pa_cons (pv 3) pa_nil)) pe_int) pa_nil))) pa_nil)) (by rfl))
        (pss_cons (ps_set (i := 6) scLaw.nd rfl (.inr rfl) (pe_own CO hr1 (by rfl) (pa_cons (pv 4) pa_nil)))
        (pss_cons (ps_if (PW.pt (pw_or (pt_not (pt_val (pe_own CI hr1 (by rfl) (pa_cons (pv 6) pa_nil)))) (pw_or1 (pt_cmpR (op_neD hr.units) (pe_callTy call_list_of (by rfl) ml (by decide +kernel) (pa_cons (pv 4) pa_nil)) (pv 3) (nomark _))))) (pss_one (ps_ret pe_bl)) pss_nil)
        (pss_cons (ps_if (pt_val (pe_callB (cr_any rfl) (by rfl) ma (by decide +kernel) (pa_cons (pe_lc (own := [("_law_number_here", 7)]) (g := gName 7) (tt := tYes) (te := tOp rNe (tCall spHas [] E0 (tCons (tVar 6) (tCons (tVar 7) tNil))) (tCall spHas [] E0 (tCons (tVar 3) (tCons (tVar 7) tNil)))) rfl scLaw.nd (pi_list (pe_own CP hr1 (by rfl) (pa_cons (pe_lst (pa_cons (pv 3) (pa_cons (pv 6) pa_nil))) pa_nil)))
            (blkOk_by (own := [("_law_number_here", 7)]) (N := ["_law_script", "_law_state", "_law_turn", "_law_pairs_here", "_law_handed", "_law_at", "_law_told", "_law_number_here"]) (sc := defScope sLaw) (by decide +kernel)) (fun _ _ _ _ _ => pg_name (i := 7) scLaw.nd rfl (.inl rfl)) (fun _ _ _ _ _ => pts_nil)
            (fun _ _ _ _ _ => pe_cmpR op_ne (pe_own CH hr1 (by rfl) (pa_cons (pv 6) (pa_cons (pv 7) pa_nil))) (pe_own CH hr1 (by rfl) (pa_cons (pv 3) (pa_cons (pv 7) pa_nil))) (nomark _))) pa_nil))) (pss_one (ps_ret pe_bl)) pss_nil)
        (pss_cons (ps_if (PW.pt (pw_or (pt_cmpR (op_neD hr.units) (pe_own CO hr1 (by rfl) (pa_cons (pe_op op_cat (pe_revL (pe_slice sl_list (pv 3) (po_some (pv 5)) po_none)) (pe_slice sl_list (pv 3) po_none (po_some (pv 5)))) pa_nil)) (pv 6) (nomark _)) (pw_or1 (pt_cmpR (op_neD hr.units) (pe_own CO hr1 (by rfl) (pa_cons (pe_callTy call_list_of (by rfl) ml (by decide +kernel) (pa_cons (pv 6) pa_nil)) pa_nil)) (pv 6) (nomark _))))) (pss_one (ps_ret pe_bl)) pss_nil)
        (pss_one (ps_if (pt_cmpR (op_neD hr.units) (pe_own CO hr1 (by rfl) (pa_cons (pe_op op_cat (pv 6) (pe_slice sl_list (pv 3) po_none (po_some (pe_op op_sub pe_int (pe_callB call_len_seq (by rfl) me PySem.boot_len (pa_cons (pv 6) pa_nil)))))) pa_nil)) (pv 6) (nomark _)) (pss_one (ps_ret pe_bl)) pss_nil)))))))))
      (pss_one (ps_ret pe_bl))), ?_⟩
    refine ⟨.ref a, rfl, a, ns, rfl, hS, hlen, fun d c H1 s1 nd nc hS1 => ?_⟩
    refine ⟨3, rfl, by decide, by decide, for_range (n := 3) (fun i σ Hx => ∃ (t : Int) (y2 y3 y4 y5 y6 y7 : Option V), σ = [some (.ref a), some (.ref d), y2, y3, y4, y5, y6, y7] ∧ 0 ≤ t ∧ t ≤ 800 * i ∧ StAt Hx d c t)
      ⟨0, _, _, _, _, _, _, rfl, by decide, by decide, hS1⟩ (fun i σ Hx hi hP => ?_) (fun σ Hx hP => ?_)⟩
    · obtain ⟨t, y2, y3, y4, y5, y6, y7, rfl, t0, t1, hSx⟩ := hP
      refine ⟨.ref d, rfl, d, c, t, rfl, hSx, by omega, fun l us ps t2 H2 nl el hps hnn hpl ht20 ht21 hS2 k2 => ?_⟩
      have nld : l ≠ d := (ne_of_none hSx.dict nl).symm
      have nlc : l ≠ c := by
        obtain ⟨cs, ec, _⟩ := hSx.cells
        exact (ne_of_none ec nl).symm
      have hul : us.length ≤ 40 := by rw [hps.1]; exact hpl
      -- handed
      refine ⟨.ref l, rfl, l, us, rfl, .inl (SqL.of el), fun g1 ng1 => ?_⟩
      have sg1 := same_upd (o := .lst us) ng1
      refine ⟨.ref l, rfl, l, us, rfl, .inl ⟨SqL.of (sg1 _ _ el), fun g2 ng2 => ?_⟩⟩
      have sg2 := same_upd (o := .tup us) ng2
      refine ⟨(by show 2 ≤ sizeLine; decide), fun z nz => ?_⟩
      have sz := same_upd (o := .lst [.ref g1, .ref g2]) nz
      have s3 := (sg1.trans sg2).trans sz
      have e1 := sz _ _ (sg2 _ _ (upd_same (H := H2) (a := g1) (o := .lst us)))
      have e2 := sz _ _ (upd_same (a := g2) (o := .tup us))
      have ez : upd (upd (upd H2 g1 (.lst us)) g2 (.tup us)) z (.lst [.ref g1, .ref g2]) z = some (.lst [.ref g1, .ref g2]) := upd_same
      have hS3 := hS2.same s3
      have ng1d : g1 ≠ d := (ne_of_none hS2.dict ng1).symm
      have ng1c : g1 ≠ c := by
        obtain ⟨cs, ec, _⟩ := hS2.cells
        exact (ne_of_none ec ng1).symm
      have nzd : z ≠ d := (ne_of_none (hS2.same (sg1.trans sg2)).dict nz).symm
      have nzc : z ≠ c := by
        obtain ⟨cs, ec, _⟩ := (hS2.same (sg1.trans sg2)).cells
        exact (ne_of_none ec nz).symm
      have el3 := s3 _ _ el
      have hps3 := hps.same s3
      revert e1 e2 ez hS3 el3 hps3
      generalize upd (upd (upd H2 g1 (.lst us)) g2 (.tup us)) z (.lst [.ref g1, .ref g2]) = H3
      intro e1 e2 ez hS3 el3 hps3
      refine ⟨.ref d, rfl, d, c, t2, 2, rfl, hS3, by omega, by decide, by decide, fun r1 H4 r10 r11 hS4 k4 => ?_⟩
      obtain ⟨g, hat, hgk⟩ : ∃ g, atI [V.ref g1, V.ref g2] r1 = some (.ref g) ∧ (H4 g = some (.lst us) ∧ g ≠ d ∧ g ≠ c ∨ H4 g = some (.tup us)) := by
        have : r1 = 0 ∨ r1 = 1 := by omega
        rcases this with rfl | rfl
        · exact ⟨g1, rfl, .inl ⟨k4 g1 _ ng1d ng1c e1, ng1d, ng1c⟩⟩
        · exact ⟨g2, rfl, .inr (k4.at hS3 e2 (fun _ z => nomatch z) (fun _ z => nomatch z))⟩
      refine ⟨z, _, r1, .ref g, rfl, rfl, SqL.of (k4 z _ nzd nzc ez), hat, ?_⟩
      have el4 := k4 l _ nld nlc el3
      -- at
      refine ⟨.ref d, rfl, .ref l, rfl, l, us, rfl, .inl (SqL.of el4), (us.length : Int), 1, rfl, rfl, d, c, _, (us.length : Int) + 1, rfl, hS4, by omega, by omega, by omega, fun at_ H5 at0 at1 hS5 k5 => ?_⟩
      obtain ⟨m, rfl⟩ := Int.eq_ofNat_of_zero_le at0
      refine ⟨_, _, rfl, ?_⟩
      have el5 := k5 l _ nld nlc el4
      have hps5 := (hps3.kp hS3 k4).kp hS4 k5
      have hg5 : H5 g = some (.lst us) ∨ H5 g = some (.tup us) := by
        rcases hgk with ⟨e, h1, h2⟩ | e
        · exact .inl (k5 g _ h1 h2 e)
        · exact .inr (k5.at hS4 e (fun _ z => nomatch z) (fun _ z => nomatch z))
      have sqg : ∀ HH : Hp, (HH g = some (.lst us) ∨ HH g = some (.tup us)) → Sq K HH g us := fun HH h => h.elim Sq.list Sq.tup
      -- told
      refine ⟨.ref g, rfl, g, us, ps, rfl, sqg _ hg5, hps5, by omega, fun tl ws rs H6 ntl etl hrs hset s6 => ?_⟩
      have m6 : Mid d c l g tl _ us ws ps rs H6 := ⟨hS5.same s6, s6 _ _ el5, hps5.same s6, hg5.imp (s6 _ _) (s6 _ _), etl, hrs⟩
      have hrl : rs.length ≤ 40 := Nat.le_trans hset.len hpl
      have hris := hset.nneg hnn
      have hwl : ws.length ≤ 40 := by rw [hrs.1]; exact hrl
      -- is_set(told), list(handed) != pairs
      refine ⟨_, rfl, tl, ws, rs, rfl, m6.tl, m6.rs, hris, by omega, fun H7 s7 => ⟨_, rfl, iteF ?_⟩⟩
      have m7 := m6.same s7
      refine ⟨_, rfl, g, us, rfl, (m7.g.elim (fun e => .inl (SqL.of e)) fun e => .inr (.inl (.inl e))), fun gl ngl => ?_⟩
      have s8 := same_upd (o := .lst us) ngl
      have m8 := m7.same s8
      refine ⟨_, rfl, _, _, .lst (SqL.of upd_same) (dp_prs m8.ps), .lst (SqL.of m8.l) (dp_prs m8.ps), shaped_prs ps, shaped_prs ps, _, rfl, ?_⟩
      rw [eqv_prs]
      refine iteF ?_
      revert m8
      generalize upd H7 gl (.lst us) = H8
      intro m8
      -- any([has(told, n) != has(pairs, n) for n in probes([pairs, told])])
      refine ⟨.ref l, rfl, .ref tl, rfl, (by show 2 ≤ sizeLine; decide), fun L nL => ?_⟩
      have s9 := same_upd (o := .lst [.ref l, .ref tl]) nL
      have m9 := m8.same s9
      refine ⟨L, [(l, us, ps), (tl, ws, rs)], rfl, upd_same, fun x hx => ?_, (by show 2 ≤ 2; decide), fun pr pn H10 npr epr hpn s10 => ?_⟩
      · rcases List.mem_cons.mp hx with e | e
        · rw [e]; exact ⟨m9.l, m9.ps, by show ps.length ≤ 100; omega⟩
        · rw [List.mem_singleton.mp e]; exact ⟨m9.tl, m9.rs, by show rs.length ≤ 100; omega⟩
      have m10 := m9.same s10
      refine ⟨pr, rfl, ⟨_, SqL.of epr⟩, fun D nD => lc_list (xs := pn.map V.int) (fun j H' => Same H10 H' ∧ H' D = some (.lst ((List.replicate j false).map V.bl))) ⟨same_upd nD, upd_same⟩ (fun j H' _ hP => SqL.of (hP.1 _ _ epr)) (fun j x H' hx hP => ?_) (fun H' hP => ?_)⟩
      · obtain ⟨sm, eD⟩ := hP
        obtain ⟨n, rfl⟩ : ∃ n, x = .int n := by
          rw [List.getElem?_map] at hx
          cases h : pn[j]? with
          | none => rw [h] at hx; cases hx
          | some n => rw [h] at hx; exact ⟨n, (Option.some.inj hx).symm⟩
        have hjl : j < 1001 := by
          have z := (List.getElem?_eq_some_iff.mp hx).1
          rw [List.length_map] at z
          omega
        have mm := m10.same sm
        refine ⟨rfl, .ref tl, rfl, _, rfl, tl, ws, rs, n, rfl, mm.tl, mm.rs, by omega, fun Ha sa => ?_⟩
        have mma := mm.same sa
        refine ⟨.ref l, rfl, _, rfl, l, us, ps, n, rfl, mma.l, mma.ps, by omega, fun Hb sb => ?_⟩
        refine ⟨rfl, ?_⟩
        rw [hset.same.any n, decide_eq_true rfl]
        refine ⟨_, sb _ _ (sa _ _ eD), ?_, fun b o e => ?_, ?_⟩
        · rw [List.length_map, List.length_replicate]
          exact Nat.lt_of_lt_of_le hjl (by decide)
        · rw [upd_ne (ne_of_none e nD)]
          exact sb _ _ (sa _ _ (sm b o e))
        · rw [upd_same, List.replicate_succ', List.map_append]
          rfl
      · obtain ⟨sm, eD⟩ := hP
        refine ⟨D, List.replicate (pn.map V.int).length false, rfl, SqL.of eD, _, rfl, ?_⟩
        rw [any_false]
        refine iteF ?_
        have m11 := m10.same sm
        -- set_of(pairs[at:][::-1] + pairs[:at]) != told
        refine ⟨.ref l, rfl, _, rfl, (m : Int), rfl, l, us, rfl, SqL.of m11.l, fun c1 nc1 => ?_⟩
        have sc1 := same_upd (o := .lst (cutV us (some (m : Int)) none)) nc1
        have m12 := m11.same sc1
        refine ⟨c1, _, rfl, SqL.of upd_same, fun c2 nc2 => ?_⟩
        have sc2 := same_upd (o := .lst (cutV us (some (m : Int)) none).reverse) nc2
        have m13 := m12.same sc2
        refine ⟨.ref l, rfl, _, rfl, (m : Int), rfl, l, us, rfl, SqL.of m13.l, fun c3 nc3 => ?_⟩
        have sc3 := same_upd (o := .lst (cutV us none (some (m : Int)))) nc3
        have m14 := m13.same sc3
        refine ⟨c2, c3, _, _, rfl, rfl, sc3 _ _ upd_same, upd_same, ?_, fun c4 nc4 => ?_⟩
        · rw [cut_back, cut_front, List.length_reverse, List.length_drop, List.length_take]
          exact Nat.le_of_lt (small1000 (by omega))
        have sc4 := same_upd (o := .lst ((cutV us (some (m : Int)) none).reverse ++ cutV us none (some (m : Int)))) nc4
        have m15 := m14.same sc4
        have hp15 : ∀ HH, Prs HH us ps → Prs HH ((cutV us (some (m : Int)) none).reverse ++ cutV us none (some (m : Int))) ((ps.drop m).reverse ++ ps.take m) := fun HH hh => by
          rw [cut_back, cut_front]
          exact ((hh.drop m).reverse).append (hh.take m)
        refine ⟨c4, _, _, rfl, Sq.list upd_same, hp15 _ m15.ps, ?_, fun q1 w1 v1 H16 nq1 eq1 hv1 hset1 s16 => ?_⟩
        · rw [List.length_append, List.length_reverse, List.length_drop, List.length_take]
          omega
        have m16 := m15.same s16
        have ev1 : v1 = rs := hset.one hset1 (Alike.of_mem fun p => by
          rw [List.mem_append, List.mem_reverse]
          constructor
          · intro hp
            rw [← List.take_append_drop m ps] at hp
            rcases List.mem_append.mp hp with ahead | behind
            · exact .inr ahead
            · exact .inl behind
          · rintro (h | h)
            · exact List.mem_of_mem_drop h
            · exact List.mem_of_mem_take h)
        subst ev1
        refine ⟨.ref tl, rfl, _, _, .lst (SqL.of eq1) (dp_prs hv1), .lst (SqL.of m16.tl) (dp_prs m16.rs), shaped_prs _, shaped_prs _, _, rfl, ?_⟩
        rw [eqv_prs]
        refine iteF ?_
        -- set_of(list(told)) != told
        refine ⟨.ref tl, rfl, tl, ws, rfl, .inl (SqL.of m16.tl), fun c5 nc5 => ?_⟩
        have sc5 := same_upd (o := .lst ws) nc5
        have m17 := m16.same sc5
        refine ⟨c5, ws, _, rfl, Sq.list upd_same, m17.rs, by omega, fun q2 w2 v2 H18 nq2 eq2 hv2 hset2 s18 => ?_⟩
        have m18 := m17.same s18
        have ev2 := hset.one hset2 hset.same.symm
        subst ev2
        refine ⟨.ref tl, rfl, _, _, .lst (SqL.of eq2) (dp_prs hv2), .lst (SqL.of m18.tl) (dp_prs m18.rs), shaped_prs _, shaped_prs _, _, rfl, ?_⟩
        rw [eqv_prs]
        refine iteF ?_
        -- set_of(told + pairs[:40 - len(told)]) != told
        refine ⟨.ref tl, rfl, .ref l, rfl, .ref tl, rfl, tl, ws, rfl, .inl (SqL.of m18.tl), 40, (ws.length : Int), rfl, rfl, _, rfl, l, us, rfl, SqL.of m18.l, fun c6 nc6 => ?_⟩
        have sc6 := same_upd (o := .lst (cutV us none (some (40 - (ws.length : Int))))) nc6
        have m19 := m18.same sc6
        have ecut : cutV us none (some (40 - (ws.length : Int))) = us.take (40 - ws.length) := by
          have e : (40 - (ws.length : Int)) = ((40 - ws.length : Nat) : Int) := by omega
          rw [e, cut_front]
        refine ⟨tl, c6, _, _, rfl, rfl, m19.tl, upd_same, ?_, fun c7 nc7 => ?_⟩
        · rw [ecut, List.length_take]
          exact Nat.le_of_lt (small1000 (by omega))
        have sc7 := same_upd (o := .lst (ws ++ cutV us none (some (40 - (ws.length : Int))))) nc7
        have m20 := m19.same sc7
        have hp20 : ∀ HH, Prs HH ws v2 → Prs HH us ps → Prs HH (ws ++ cutV us none (some (40 - (ws.length : Int)))) (v2 ++ ps.take (40 - ws.length)) := fun HH h1 h2 => by
          rw [ecut]
          exact h1.append (h2.take _)
        refine ⟨c7, _, _, rfl, Sq.list upd_same, hp20 _ m20.rs m20.ps, ?_, fun q3 w3 v3 H21 nq3 eq3 hv3 hset3 s21 => ?_⟩
        · rw [List.length_append, List.length_take]
          omega
        have m21 := m20.same s21
        have ev3 : v3 = v2 := hset.one hset3 fun n => by
          constructor
          · intro h
            obtain ⟨p, hp, e⟩ := (hset.same n).mpr h
            exact ⟨p, List.mem_append_left _ hp, e⟩
          · rintro ⟨p, hp, e⟩
            rcases List.mem_append.mp hp with told | more
            · exact (hset.same n).mp ⟨p, told, e⟩
            · exact ⟨p, List.mem_of_mem_take more, e⟩
        subst ev3
        refine ⟨.ref tl, rfl, _, _, .lst (SqL.of eq3) (dp_prs hv3), .lst (SqL.of m21.tl) (dp_prs m21.rs), shaped_prs _, shaped_prs _, _, rfl, ?_⟩
        rw [eqv_prs]
        refine iteF ?_
        have hti : t2 + 1 + 1 ≤ 800 * ((i + 1 : Nat) : Int) := by
          have ei : ((i + 1 : Nat) : Int) = (i : Int) + 1 := by omega
          rw [ei]
          omega
        exact ⟨t2 + 1 + 1, _, _, _, _, _, _, rfl, by omega, hti, m21.st⟩
    · exact q _
end

/-! ### the end: what the top has left, the tables of code objects among it -/
/-- each def of the text has a code object with an empty table -/
def Tabs (q : Program) (mg : Str → Option Value) (h : Heap) : Prop := ∀ dr ∈ recsOf q, ∃ (f : Addr) (o : Obj) (fd : FuncData) (c P : Addr), mg dr.name = some (.ref f) ∧ h.get? f = some o ∧ o.data = .func fd ∧ fd.code = .ref c ∧ PySem.W.CodeHd h c P ∧ h.get? P = some (PySem.W.tabObj #[])
theorem tab_in {q : Program} {mg : Str → Option Value} {h : Heap} {K : PySem.W.Frag} {y : Str} {f c P : Addr} {oc e : Value} {od dd : Option Addr} {fd : FuncData} {osl sl : Array (Option Value)} {vs : Array Value} (TT : Tabs q mg h) (X : K.In h) (rec : ((recsOf q).any fun r => r.name == y) = true)
    (g : mg y = some (.ref f)) (lf : K.lookup f = some ⟨oc, od, .func fd, osl⟩) (hc : fd.code = .ref c) (lc : K.lookup c = some ⟨e, dd, .fields vs, sl⟩) (v : vs[11]? = some (.ref P)) : PySem.W.CodeHd h c P ∧ h.get? P = some (PySem.W.tabObj #[]) := by
  obtain ⟨dr, mem, nm⟩ := List.any_eq_true.mp rec
  obtain ⟨f', o', fd', c', P', t1, t2, t3, t4, t5, t6⟩ := TT dr mem
  have ef : f' = f := by
    rw [beq_iff_eq.mp nm, g] at t1
    exact (Value.ref.inj (Option.some.inj t1)).symm
  rw [ef, X _ _ lf] at t2
  rw [← Option.some.inj t2] at t3
  have efd : fd = fd' := Data.func.inj t3
  rw [← efd, hc] at t4
  have ec : c = c' := Value.ref.inj t4
  rw [← ec] at t5
  have t5' := t5
  obtain ⟨oc', us, _, _, _, _, _, _, _, u1, _, u3, u4, _⟩ := t5'
  rw [X _ _ lc] at u1
  rw [← Option.some.inj u1] at u3
  have eu : vs = us := Data.fields.inj u3
  rw [← eu, v] at u4
  have eP : P = P' := Value.ref.inj (Option.some.inj u4)
  rw [eP]
  exact ⟨t5, t6⟩
theorem law_end {l : PySem.W.OpenLaw} {k : Nat} {q : Program} {loose : List Str} {XP : (Str → Option Value) → Heap → Prop} {YP : World → Heap → Prop} {d : DefRec} {K : Params → PySem.W.Frag} (most : l.most = some 63) (plain : d.params.defaults = []) (room : Room k callerA)
    (part : ∀ w h, YP w h → (K w.params).In h) (made : ∀ (w : World) (mg : Str → Option Value) (f : Addr) (h : Heap), (K w.params).In h → h.Ns mainGlobals mg → mg d.name = some (.ref f) → Tabs q mg h → LamX.LawAtS l w (K w.params) CX0 k 63 "_law_script" mg f h) : PySem.W.WalkO q loose XP YP l.row.toRowW d [] (fun f vs => PySem.call f vs) := by
  refine Att.attach_callB most plain ?_
  intro w _ s₁ mg _ f _ _ _ _ a vs ns ground said _ _ _ name script nums len size still
  have X := part w _ said
  have tabs : Tabs q mg s₁.heap := fun dr mem => by
    obtain ⟨f', o', fd', c', P', t1, t2, t3, t4, t5, t6⟩ := ground.T.tab dr mem
    exact ⟨f', o', fd', c', P', t1, t2, t3, t4, PySem.W.CodeHd.of t5 t6, t6.2⟩
  obtain ⟨fd, cs, sp, e1, e2, e3, e4, e5, e6⟩ := made w mg f _ X ground.T.g name tabs
  exact LamX.law_callTs X ground.T.g ground.T.b ground.T.builtins ground.T.nolimit still e1 e2 e3 ground.T.bmain script nums (Nat.le_trans len (by decide)) room e6 e4 (fun H z1 z2 => e5 H a ns len size z1 z2) fun _ _ _ z => z

theorem all_mk {l : PySem.W.OpenLaw} {q : Program} {w : World} {K : PySem.W.Frag} {h : Heap} {mg : Str → Option Value} {fa f0 f1 f2 f3 f4 f5 f6 f7 f8 : Addr} (X : K.In h) (G : h.Ns mainGlobals mg) (hfa : mg "law" = some (.ref fa)) (TT : Tabs q mg h)
    {od0 an0 od1 an1 od2 an2 od3 an3 od4 an4 od5 an5 od6 an6 od7 an7 od8 an8 : Option Addr} {sl0 sl1 sl2 sl3 sl4 sl5 sl6 sl7 sl8 : Array (Option Value)} {oc0 kV0 dc0 pm0 ct0 cd0 oc1 kV1 dc1 pm1 ct1 cd1 oc2 kV2 dc2 pm2 ct2 cd2 oc3 kV3 dc3 pm3 ct3 cd3 oc4 kV4 dc4 pm4 ct4 cd4 oc5 kV5 dc5 pm5 ct5 cd5 oc6 kV6 dc6 pm6 ct6 cd6 oc7 kV7 dc7 pm7 ct7 cd7 oc8 kV8 dc8 pm8 ct8 cd8 : Value}
    (a0 : PySem.W.nsIn K mainGlobals "set_of" = some (some (.ref f0))) (l0 : K.lookup f0 = some ⟨oc0, od0, .func (PySem.W.fnOf "set_of" "set_of" (defArgs sSetOf) (defBody sSetOf) (defScope sSetOf) .none kV0 dc0 pm0 an0 cd0 ct0), sl0⟩) (c0' : PySem.W.codeIn K cd0 "set_of" = true) (k0 : PySem.W.keepIn K (.ref f0) = true)
    (a1 : PySem.W.nsIn K mainGlobals "_law_begin" = some (some (.ref f1))) (l1 : K.lookup f1 = some ⟨oc1, od1, .func (PySem.W.fnOf "_law_begin" "_law_begin" (defArgs sBegin) (defBody sBegin) (defScope sBegin) .none kV1 dc1 pm1 an1 cd1 ct1), sl1⟩) (c1' : PySem.W.codeIn K cd1 "_law_begin" = true) (k1 : PySem.W.keepIn K (.ref f1) = true)
    (a2 : PySem.W.nsIn K mainGlobals "_law_take" = some (some (.ref f2))) (l2 : K.lookup f2 = some ⟨oc2, od2, .func (PySem.W.fnOf "_law_take" "_law_take" (defArgs sTake) (defBody sTake) (defScope sTake) .none kV2 dc2 pm2 an2 cd2 ct2), sl2⟩) (c2' : PySem.W.codeIn K cd2 "_law_take" = true) (k2 : PySem.W.keepIn K (.ref f2) = true)
    (a3 : PySem.W.nsIn K mainGlobals "_law_number" = some (some (.ref f3))) (l3 : K.lookup f3 = some ⟨oc3, od3, .func (PySem.W.fnOf "_law_number" "_law_number" (defArgs sNumber) (defBody sNumber) (defScope sNumber) .none kV3 dc3 pm3 an3 cd3 ct3), sl3⟩) (c3' : PySem.W.codeIn K cd3 "_law_number" = true) (k3 : PySem.W.keepIn K (.ref f3) = true)
    (a4 : PySem.W.nsIn K mainGlobals "_law_has" = some (some (.ref f4))) (l4 : K.lookup f4 = some ⟨oc4, od4, .func (PySem.W.fnOf "_law_has" "_law_has" (defArgs sHas) (defBody sHas) (defScope sHas) .none kV4 dc4 pm4 an4 cd4 ct4), sl4⟩) (c4' : PySem.W.codeIn K cd4 "_law_has" = true) (k4 : PySem.W.keepIn K (.ref f4) = true)
    (a5 : PySem.W.nsIn K mainGlobals "_law_is_set" = some (some (.ref f5))) (l5 : K.lookup f5 = some ⟨oc5, od5, .func (PySem.W.fnOf "_law_is_set" "_law_is_set" (defArgs sIsSet) (defBody sIsSet) (defScope sIsSet) .none kV5 dc5 pm5 an5 cd5 ct5), sl5⟩) (c5' : PySem.W.codeIn K cd5 "_law_is_set" = true) (k5 : PySem.W.keepIn K (.ref f5) = true)
    (a6 : PySem.W.nsIn K mainGlobals "_law_probes" = some (some (.ref f6))) (l6 : K.lookup f6 = some ⟨oc6, od6, .func (PySem.W.fnOf "_law_probes" "_law_probes" (defArgs sProbes) (defBody sProbes) (defScope sProbes) .none kV6 dc6 pm6 an6 cd6 ct6), sl6⟩) (c6' : PySem.W.codeIn K cd6 "_law_probes" = true) (k6 : PySem.W.keepIn K (.ref f6) = true)
    (a7 : PySem.W.nsIn K mainGlobals "_law_pairs" = some (some (.ref f7))) (l7 : K.lookup f7 = some ⟨oc7, od7, .func (PySem.W.fnOf "_law_pairs" "_law_pairs" (defArgs sPairs) (defBody sPairs) (defScope sPairs) .none kV7 dc7 pm7 an7 cd7 ct7), sl7⟩) (c7' : PySem.W.codeIn K cd7 "_law_pairs" = true) (k7 : PySem.W.keepIn K (.ref f7) = true)
    (a8 : PySem.W.nsIn K mainGlobals "law" = some (some (.ref f8))) (l8 : K.lookup f8 = some ⟨oc8, od8, .func (PySem.W.fnOf "law" "law" (defArgs sLaw) (defBody sLaw) (defScope sLaw) .none kV8 dc8 pm8 an8 cd8 ct8), sl8⟩) (c8' : PySem.W.codeIn K cd8 "law" = true) (k8 : PySem.W.keepIn K (.ref f8) = true)
    (z_any : PySem.W.nsIn K mainGlobals "any" = some none) (z_all : PySem.W.nsIn K mainGlobals "all" = some none) (z_zip : PySem.W.nsIn K mainGlobals "zip" = some none) (z_list : PySem.W.nsIn K mainGlobals "list" = some none) (z_len : PySem.W.nsIn K mainGlobals "len" = some none) (z_divmod : PySem.W.nsIn K mainGlobals "divmod" = some none) (z_isinstance : PySem.W.nsIn K mainGlobals "isinstance" = some none) (z_tuple : PySem.W.nsIn K mainGlobals "tuple" = some none) (z_bool : PySem.W.nsIn K mainGlobals "bool" = some none) (z_int : PySem.W.nsIn K mainGlobals "int" = some none) (z_range : PySem.W.nsIn K mainGlobals "range" = some none) (z_max : PySem.W.nsIn K mainGlobals "max" = some none) (z_sorted : PySem.W.nsIn K mainGlobals "sorted" = some none) :
    LamX.LawAtS l w K CX0 4 63 "_law_script" mg fa h := by
  cases hfa.symm.trans (PySem.W.mg_of X G a8)
  have F0 := fun_mk (st := sSetOf) l0 c0' k0
  have b0 := F0.binds (ps := ["pairs"]) fun _ _ _ _ _ _ us hl => match us, hl with | [_], _ => rfl
  have F1 := fun_mk (st := sBegin) l1 c1' k1
  have b1 := F1.binds (ps := ["_law_script"]) fun _ _ _ _ _ _ us hl => match us, hl with | [_], _ => rfl
  have F2 := fun_mk (st := sTake) l2 c2' k2
  have b2 := F2.binds (ps := ["_law_state", "_law_many"]) fun _ _ _ _ _ _ us hl => match us, hl with | [_, _], _ => rfl
  have F3 := fun_mk (st := sNumber) l3 c3' k3
  have b3 := F3.binds (ps := ["_law_state", "_law_kind"]) fun _ _ _ _ _ _ us hl => match us, hl with | [_, _], _ => rfl
  have F4 := fun_mk (st := sHas) l4 c4' k4
  have b4 := F4.binds (ps := ["_law_pairs_here", "_law_number_here"]) fun _ _ _ _ _ _ us hl => match us, hl with | [_, _], _ => rfl
  have F5 := fun_mk (st := sIsSet) l5 c5' k5
  have b5 := F5.binds (ps := ["_law_thing"]) fun _ _ _ _ _ _ us hl => match us, hl with | [_], _ => rfl
  have F6 := fun_mk (st := sProbes) l6 c6' k6
  have b6 := F6.binds (ps := ["_law_lists"]) fun _ _ _ _ _ _ us hl => match us, hl with | [_], _ => rfl
  have F7 := fun_mk (st := sPairs) l7 c7' k7
  have b7 := F7.binds (ps := ["_law_state"]) fun _ _ _ _ _ _ us hl => match us, hl with | [_], _ => rfl
  have F8 := fun_mk (st := sLaw) l8 c8' k8
  have m_any := PySem.W.mg_none_of X G z_any
  have m_all := PySem.W.mg_none_of X G z_all
  have m_zip := PySem.W.mg_none_of X G z_zip
  have m_list := PySem.W.mg_none_of X G z_list
  have m_len := PySem.W.mg_none_of X G z_len
  have m_divmod := PySem.W.mg_none_of X G z_divmod
  have m_isinstance := PySem.W.mg_none_of X G z_isinstance
  have m_tuple := PySem.W.mg_none_of X G z_tuple
  have m_bool := PySem.W.mg_none_of X G z_bool
  have m_int := PySem.W.mg_none_of X G z_int
  have m_range := PySem.W.mg_none_of X G z_range
  have m_max := PySem.W.mg_none_of X G z_max
  have m_sorted := PySem.W.mg_none_of X G z_sorted
  refine ⟨PySem.W.fnOf "law" "law" (defArgs sLaw) (defBody sLaw) (defScope sLaw) .none kV8 dc8 pm8 an8 cd8 ct8, [], spLaw K, (fun p hp => nomatch hp), (fun p hp => nomatch hp), (fun p hp => nomatch hp), fun s v => .of_eq rfl, fun H a ns hl _ hH hS => ?_, fun base _ _ TB => ?_⟩
  ·  exact ⟨a, ns, rfl, hS, hl, fun _ => rfl⟩
  · have g := fun {x : Str} {f : Addr} (a : PySem.W.nsIn K mainGlobals x = some (some (.ref f))) => PySem.W.mg_of X G a
    have CT : Cal l.prog w K mg base 1 "_law_take" ["_law_state", "_law_many"] spTake := ⟨_, _, ok_take F2 m_len m_divmod, g a2, k2, b2⟩
    have CB : Cal l.prog w K mg base 1 "_law_begin" ["_law_script"] (spBegin K) := ⟨_, _, ok_begin F1 m_list, g a1, k1, b1⟩
    have CN : Cal l.prog w K mg base 2 "_law_number" ["_law_state", "_law_kind"] spNumber := ⟨_, _, ok_number F3 CT m_range, g a3, k3, b3⟩
    have CH : Cal l.prog w K mg base 1 "_law_has" ["_law_pairs_here", "_law_number_here"] spHas := ⟨_, _, ok_has F4 m_any, g a4, k4, b4⟩
    have CI : Cal l.prog w K mg base 1 "_law_is_set" ["_law_thing"] spIsSet := ⟨_, _, ok_isset F5 m_isinstance m_list m_tuple m_int m_bool m_len m_all m_zip, g a5, k5, b5⟩
    have CP : Cal l.prog w K mg base 1 "_law_probes" ["_law_lists"] spProbes := ⟨_, _, ok_probes F6 m_max m_sorted m_list, g a6, k6, b6⟩
    have CA : Cal l.prog w K mg base 3 "_law_pairs" ["_law_state"] spPairs := ⟨_, _, ok_pairs F7 CT CN m_range m_len, g a7, k7, b7⟩
    have CO : Cal l.prog w K mg base 1 "set_of" ["pairs"] (spSetOf K) := ⟨_, _, ok_setof F0 m_sorted m_max, g a0, k0, b0⟩
    exact ok_law F8 CB CT CA CI CH CP CO m_range m_list m_tuple m_len m_any
end TK
open PySem PySem.W PyProof.Rows
set_option maxHeartbeats 0 in
theorem PySem.Challenge.cw_tinrecall_k01_sets_of_pairs_holds : PySem.Challenge.rw_tinrecall_k01_sets_of_pairs.Holds := by
  w_on; o_law; k_head; (case hw => w_witness2)
  k_fill
  refine TK.law_end (l := PySem.Challenge.rw_tinrecall_k01_sets_of_pairs) (k := 4) rfl rfl ⟨rfl, by decide, by decide⟩ (fun w h Y => PySem.W.kIn_of Y) ?made
  case made =>
    intro w mg f h KX G hmg TT
    refine' TK.all_mk KX G hmg TT ?a0 ?l0 ?c0 ?k0 ?a1 ?l1 ?c1 ?k1 ?a2 ?l2 ?c2 ?k2 ?a3 ?l3 ?c3 ?k3 ?a4 ?l4 ?c4 ?k4 ?a5 ?l5 ?c5 ?k5 ?a6 ?l6 ?c6 ?k6 ?a7 ?l7 ?c7 ?k7 ?a8 ?l8 ?c8 ?k8 ?z_any ?z_all ?z_zip ?z_list ?z_len ?z_divmod ?z_isinstance ?z_tuple ?z_bool ?z_int ?z_range ?z_max ?z_sorted
    (case a0 => k_is); (case l0 => k_is); (case c0 => k_is); (case k0 => k_is)
    (case a1 => k_is); (case l1 => k_is); (case c1 => k_is); (case k1 => k_is)
    (case a2 => k_is); (case l2 => k_is); (case c2 => k_is); (case k2 => k_is)
    (case a3 => k_is); (case l3 => k_is); (case c3 => k_is); (case k3 => k_is)
    (case a4 => k_is); (case l4 => k_is); (case c4 => k_is); (case k4 => k_is)
    (case a5 => k_is); (case l5 => k_is); (case c5 => k_is); (case k5 => k_is)
    (case a6 => k_is); (case l6 => k_is); (case c6 => k_is); (case k6 => k_is)
    (case a7 => k_is); (case l7 => k_is); (case c7 => k_is); (case k7 => k_is)
    (case a8 => k_is); (case l8 => k_is); (case c8 => k_is); (case k8 => k_is)
    (case z_any => k_is); (case z_all => k_is); (case z_zip => k_is); (case z_list => k_is); (case z_len => k_is); (case z_divmod => k_is); (case z_isinstance => k_is); (case z_tuple => k_is); (case z_bool => k_is); (case z_int => k_is); (case z_range => k_is); (case z_max => k_is); (case z_sorted => k_is)

