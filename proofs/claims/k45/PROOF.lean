import PyProof.Rows.All
import Wide.All
import OpenK.AllK
import Wide.FinOn
import HandS.ForMost
import HandS.WideBits
import HandS.IsInst
import HandS.Style
import HandS.AnyAll
import HandS.Nested
import HandS.Walk
import HandS.Evl
import HandS.EndTab
import HandS.SortInts
import HandS.SortRule
import HandS.Conv
import HandS.Star
import HandS.Codes
import HandS.Wide
import HandS.Zip
import HandS.DictComp
import HandS.SetFor
import HandS.SetKeys
import HandS.StrMore
import HandS.Replace
import PyProof.ReprRoads
import PyProof.ReprLen
import HandS.Small
import HandS.More
import KE.KDictPairs
import KE.GoesMore
import KE.GoesEnum
import PyProof.SumAny
import PyProof.WalksPairs
import PyProof.GenCompT
import HandS.Lambda
import KE.SortKeyHeap
import HandS.Sort
import HandS.Conv
import HandS.ExcValue
import HandS.ExcOwn
import KE.SortData
import KE.DataMinMax
import KE.GoesEnumKw
import HandS.SortKw
import HandS.Deep
import HandS.GenList
import HandS.TupAny
import PySem.Challenge.RW_tinrecall_k45_costs_put_otherwise
set_option Elab.async false
set_option linter.all false
set_option maxRecDepth 100000
set_option maxHeartbeats 5000000
/-! ## sum(.. for a, b in ..): a generator expression over a list or a tuple of pairs of whole numbers -/
namespace GP
open PySem PySem.Spec PyProof.Rows L2 GxR

/-- a walk whose items are tuples that stand still -/
theorem asTuples {prog : Program} {w : World} {A : Around} {it : Addr} {foot : List Addr} {n : Nat} {Item : Nat → Value → Prop} {At : Nat → Heap → Prop} (W : Walks prog w A it foot [it] n Item At) (loc : Nat → Addr) (held : Nat → Array Value)
    (isT : ∀ j v, j < n → Item j v → v = .ref (loc j)) (apt : ∀ j, j < n → loc j ≠ it)
    (letGo : ∀ (es : List Expr) (k : Nat) (pos : Pos) (j : Nat) (T : Addr) (s : Shared) (Q : Unit → Shared → Prop) (E : Value → Shared → Prop), At j s.heap → Q () s → wpAny (model prog w) A (letOwnedTupleGo (.Tuple es k pos) (.ref it) (.ref T)) Q E s) :
    WalksU prog w A it (foot ++ (List.range n).map loc) [it] n (fun j xs => xs = held j) (fun j h => At j h ∧ ∀ m, m < n → h.IsTuple (loc m) (held m))
      (fun j T h => (j < n ∧ T = loc j) ∧ At (j + 1) h ∧ ∀ m, m < n → h.IsTuple (loc m) (held m)) := by
  have inFoot : ∀ m, m < n → loc m ∈ foot ++ (List.range n).map loc := fun m hm => List.mem_append.mpr (.inr (List.mem_map.mpr ⟨m, List.mem_range.mpr hm, rfl⟩))
  constructor
  case sub => exact fun b hb => List.mem_append.mpr (.inl (W.sub b hb))
  case frame =>
    intro j h h' ⟨a1, a2⟩ kept
    refine ⟨W.frame j h h' a1 fun b hb => kept b (List.mem_append.mpr (.inl hb)), fun m hm => ?_⟩
    obtain ⟨o, e, r⟩ := a2 m hm
    exact ⟨o, kept _ (inFoot m hm) o e, r⟩
  case item =>
    intro j s Q E hj ⟨a1, a2⟩ fin
    refine W.item j s Q E hj a1 fun v h' tk hv a1' kept => ?_
    have still : ∀ m, m < n → h'.IsTuple (loc m) (held m) := fun m hm => by
      obtain ⟨o, e, r⟩ := a2 m hm
      exact ⟨o, kept _ o (fun z => apt m hm (List.mem_singleton.mp z)) e, r⟩
    rw [isT j v hj hv]
    exact fin (loc j) (held j) h' tk rfl (still j hj) ⟨⟨hj, rfl⟩, a1', still⟩ kept
  case go =>
    intro es k pos j T s Q E hm fin
    exact letGo es k pos (j + 1) T s Q E hm.2.1 (fin s.heap hm.2 fun _ _ _ e => e)
  case apart =>
    intro j T h hm z
    rw [hm.1.2] at z
    exact apt j hm.1.1 (List.mem_singleton.mp z)
  case done => exact fun s Q E a fin => W.done s Q E a.1 fin
  case self => exact fun j s Q E a fin => W.self j s Q E a.1 fin

/-- the values vs are tuples that hold the pairs ps -/
def Prs (H : Hp) (vs : List V) (ps : List (Int × Int)) : Prop := vs.length = ps.length ∧ ∀ (i : Nat) p, ps[i]? = some p → ∃ a, vs[i]? = some (.ref a) ∧ H a = some (.tup [.int p.1, .int p.2])

/-- what is asked of the expression's own scope: the two names are its locals, its captured names are the def's -/
def OwnScope (env : Env) (sc : Scope) (xa xb : Str) : Prop :=
  (sc.kind = .function ∧ sc.isCoroutine = false ∧ xa ≠ xb) ∧ (sc.names.lookup (".0" : Str) = some .local ∧ sc.names.lookup xa = some .local ∧ sc.names.lookup xb = some .local) ∧
  (∀ y ∈ sc.names, y.2 ≠ NameKind.cell) ∧ ∀ y ∈ sc.names, y.2 = NameKind.free → ∃ c, env.cells.lookup y.1 = some c

section
variable {X : Cx} {s : Shared} {H : Hp} {σ : L2.St} {pins : List (Addr × Obj)}
/-- a tracked pair in the machine's heap -/
theorem pair_in {T : Addr} {p : Int × Int} (I : Inv X pins σ H s) (e : H T = some (.tup [.int p.1, .int p.2])) : ∃ ta tb, s.heap.IsTuple T #[.int p.1 ta, .int p.2 tb] := by
  obtain ⟨_, its, r, t⟩ := I.hok T _ e
  cases r with
  | cons q1 r =>
    cases r with
    | cons q2 r =>
      cases r
      obtain ⟨ta, rfl⟩ := q1
      obtain ⟨tb, rfl⟩ := q2
      exact ⟨ta, tb, t⟩
/-- the pairs by place: where they stand and what they hold -/
theorem pairs_in {vs : List V} {ps : List (Int × Int)} {its : List Value} (I : Inv X pins σ H s) (hp : Prs H vs ps) (r : Vals vs its) :
    ∃ (loc : Nat → Addr) (held : Nat → Array Value), ∀ j, j < ps.length → its[j]? = some (.ref (loc j)) ∧ s.heap.IsTuple (loc j) (held j) ∧ ∃ p ta tb, ps[j]? = some p ∧ held j = #[.int p.1 ta, .int p.2 tb] := by
  have one : ∀ j, ∃ (T : Addr) (xs : Array Value), j < ps.length → its[j]? = some (.ref T) ∧ s.heap.IsTuple T xs ∧ ∃ p ta tb, ps[j]? = some p ∧ xs = #[.int p.1 ta, .int p.2 tb] := fun j => by
    by_cases hj : j < ps.length
    · obtain ⟨T, e1, e2⟩ := hp.2 j ps[j] (List.getElem?_eq_getElem hj)
      obtain ⟨u, eu, ru⟩ := r.get e1
      cases ru
      obtain ⟨ta, tb, t⟩ := pair_in I e2
      exact ⟨T, _, fun _ => ⟨eu, t, ps[j], ta, tb, List.getElem?_eq_getElem hj, rfl⟩⟩
    · exact ⟨0, #[], fun z => absurd z hj⟩
  exact ⟨fun j => (one j).choose, fun j => (one j).choose_spec.choose, fun j hj => (one j).choose_spec.choose_spec hj⟩

/-- what a walk over the pairs is, begun at the new iterator that o is -/
def Begun (X : Cx) (s : Shared) (P : Addr) (ps : List (Int × Int)) (o : Obj) : Prop :=
  ∃ (foot : List Addr) (Hold : Nat → Array Value → Prop) (At : Nat → Heap → Prop) (Mid : Nat → Addr → Heap → Prop),
    (∀ A' : Around, A'.handled = none → WalksU X.prog X.w A' s.heap.objs.size foot [s.heap.objs.size] ps.length (fun j xs => j < ps.length ∧ Hold j xs) At Mid) ∧
    (∀ j xs, j < ps.length → Hold j xs → ∃ p ta tb, ps[j]? = some p ∧ xs = #[.int p.1 ta, .int p.2 tb]) ∧ At 0 (s.heap.push o) ∧ ∀ b ∈ foot, b < s.heap.objs.size + 1 ∧ b ≠ P
theorem begin_pairs {a P : Addr} {vs : List V} {ps : List (Int × Int)} {tb : Array Value} {Q' : Value → Shared → Prop} (I : Inv X pins σ H s) (hS : SqL X.K H a vs ∨ SqT X.K H a vs) (hp : Prs H vs ps) (hP : H P = some (.tbl tb))
    (fin : ∀ o, Begun X s P ps o → Q' (.ref s.heap.objs.size) { s with heap := s.heap.push o }) : wpAny (model X.prog X.w) X.A (pyIter (.ref a)) Q' X.xe s := by
  have hPo : s.heap.get? P = some { cls := .none, data := .fields tb } := I.hok P _ hP
  have notP : ∀ (b : Addr) (o : Obj) (xs : Array Value) (n : Nat), s.heap.get? b = some o → o.data = .seq xs n → b ≠ P := fun b o xs n e d z => by
    rw [z, hPo] at e
    rw [← Option.some.inj e] at d
    cases d
  have newP : s.heap.objs.size ≠ P := fun z => Nat.lt_irrefl _ (Nat.lt_of_lt_of_eq (Heap.lt_size hPo) z)
  -- from a walk over the items to the pairs
  have mk : ∀ (its : List Value) (o : Obj) (At : Nat → Heap → Prop), Vals vs its → a < s.heap.objs.size → a ≠ P → At 0 (s.heap.push o) →
      (∀ A' : Around, A'.handled = none → Walks X.prog X.w A' s.heap.objs.size [s.heap.objs.size, a] [s.heap.objs.size] its.toArray.size (fun i v => its.toArray[i]? = some v) At) →
      (∀ (A' : Around) (es : List Expr) (k : Nat) (pos : Pos) (j : Nat) (T : Addr) (s' : Shared) (Q : Unit → Shared → Prop) (E : Value → Shared → Prop), At j s'.heap → Q () s' → wpAny (model X.prog X.w) A' (letOwnedTupleGo (.Tuple es k pos) (.ref s.heap.objs.size) (.ref T)) Q E s') →
      Begun X s P ps o := by
    intro its o At r ha haP a0 W go
    obtain ⟨loc, held, hl⟩ := pairs_in I hp r
    have ln : its.toArray.size = ps.length := by rw [List.size_toArray, ← r.length, hp.1]
    have below : ∀ m, m < ps.length → loc m < s.heap.objs.size ∧ loc m ≠ P := fun m hm => by
      obtain ⟨_, ⟨ob, e, _, n, d⟩, _⟩ := hl m hm
      exact ⟨Heap.lt_size e, notP _ _ _ _ e d⟩
    refine ⟨_, _, _, _, fun A' hA => (asTuples (ln ▸ W A' hA) loc held (fun j v hj e => ?_) (fun j hj => Nat.ne_of_lt (below j hj).1) (fun es k pos j T s' Q E => go A' es k pos j T s' Q E)).bound, fun j xs hj e => ?_, ⟨a0, fun m hm => ?_⟩, fun b hb => ?_⟩
    · have e2 : its[j]? = some v := by simpa using e
      rw [(hl j hj).1] at e2
      exact (Option.some.inj e2).symm
    · obtain ⟨_, _, p, ta, tb', e1, e2⟩ := hl j hj
      exact ⟨p, ta, tb', e1, (show xs = held j from e).trans e2⟩
    · obtain ⟨_, ⟨ob, e, rest⟩, _⟩ := hl m hm
      exact ⟨ob, Heap.get?_push_of_some _ e, rest⟩
    · rcases List.mem_append.mp hb with z | z
      · rcases List.mem_cons.mp z with e | e
        · rw [e]; exact ⟨Nat.lt_succ_self _, newP⟩
        · rw [List.mem_singleton.mp e]; exact ⟨Nat.lt_succ_of_lt ha, haP⟩
      · obtain ⟨m, hm, e⟩ := List.mem_map.mp z
        obtain ⟨h1, h2⟩ := below m (List.mem_range.mp hm)
        rw [← e]; exact ⟨Nat.lt_succ_of_lt h1, h2⟩
  rcases hS with hS | hS
  · obtain ⟨its, r, hl, _⟩ := I.list hS
    obtain ⟨o, e, c, n, d⟩ := hl.isList
    refine wpAny_pyIter_list hl.isList (fin _ (mk its _ _ r (Heap.lt_size e) (notP _ _ _ _ e d) ⟨⟨_, Heap.get?_push_size _ rfl, rfl, rfl⟩, ⟨o, Heap.get?_push_of_some _ e, c, n, d⟩⟩ (fun A' hA => Walks.list hA _ a (Nat.ne_of_lt (Heap.lt_size e)) its.toArray) ?_))
    exact fun A' es k pos j T s' Q E at_ q => wpAny_letOwnedTupleGo_listiter at_.1 q
  · obtain ⟨its, r, ⟨o, e, c, n, d⟩, _⟩ := I.tuple hS
    refine wpAny_pyIter_tuple (items := its.toArray) ⟨o, e, c, n, d⟩ (fin _ (mk its _ _ r (Heap.lt_size e) (notP _ _ _ _ e d) ⟨⟨_, Heap.get?_push_size _ rfl, rfl, rfl⟩, ⟨o, Heap.get?_push_of_some _ e, c, n, d⟩⟩ (fun A' hA => Walks.tuple hA _ a (Nat.ne_of_lt (Heap.lt_size e)) its.toArray) ?_))
    exact fun A' es k pos j T s' Q E at_ q => letGo_tupleiter at_.1 q

/-- the expression's code object is made, or found: the table may grow, all else stands -/
theorem code_there {c P : Addr} {gpos : Pos} {qual : Str} {sc : Scope} {tb : Array Value} {Q' : Value → Shared → Prop} {E : Value → Shared → Prop} (hcode : X.env.code = .ref c) (C : PySem.W.CodeHd s.heap c P) (hP : s.heap.get? P = some { cls := .none, data := .fields tb }) (ok : TriplesOk tb.toList)
    (fin : ∀ (code : Value) (h' : Heap) (tk : Nat) (more : Array Value), Heap.ExtBut P s.heap h' → s.heap.objs.size ≤ h'.objs.size → h'.get? P = some { cls := .none, data := .fields (tb ++ more) } → TriplesOk (tb ++ more).toList → Q' code { s with heap := h', toks := tk }) :
    wpAny (model X.prog X.w) X.A (genexprCode X.env gpos qual sc) Q' E s := by
  cases found : codeAmong gpos tb.toList with
  | some old =>
    refine wpAny_genexprCode_hit hcode (C.code hP ok) found ?_
    have e : tb ++ #[] = tb := by simp
    exact fin old s.heap s.toks #[] (Heap.ExtBut.refl _ _) (Nat.le_refl _) (by rw [e]; exact hP) (by rw [e]; exact ok)
  | none =>
    refine wpAny_genexprCodeX hcode (C.code hP ok) (C.tab hP) found fun c' h' tk ext le lt isC _ tab _ => ?_
    obtain ⟨_, _, _, _, _, _, _, _, _, _, _, _, _, _, _, _, _, _, _, okT, _⟩ := isC
    exact fin _ h' tk _ ext (Nat.le_trans le (Nat.le_of_lt lt)) tab.2 okT

/-- the element at a pair of whole numbers: what it gives, wherever the expression runs later -/
def EltAt (X : Cx) (s₁ : Shared) (P : Addr) (sc : Scope) (xa xb : Str) (elt : Expr) (Gives : Int → Int → Value → Prop) : Prop :=
  ∀ (L : Addr) (code : Value) (A' : Around) (E' : Value → Shared → Prop) (a b : Int) (ta tb : Tok) (s₂ : Shared) (m : Str → Option Value), A'.handled = none →
    (∀ x o, x ≠ P → s₁.heap.get? x = some o → s₂.heap.get? x = some o) → s₂.heap.Ns L m → m xa = some (.int a ta) → m xb = some (.int b tb) →
    wpAny (model X.prog X.w) A' (eval elt (genEnv sc (cloFrom X.env.cells sc.names []) L code builtinsNs X.env)) (fun y s₃ => Gives a b y ∧ Keeps s₂ s₃) E' s₂

/-- the generator at g, in the state s₅, before its first item; H₁: what was held when it was made -/
def Fresh (X : Cx) (pins : List (Addr × Obj)) (σ : L2.St) (H₁ : Hp) (P : Addr) (ps : List (Int × Int)) (Gives : Int → Int → Value → Prop) (g : Addr) (s₅ : Shared) : Prop :=
  ∃ (foot writes : List Addr) (Gens : Array GenState → Array GenState → Prop) (Item : Nat → Value → Prop) (At : Nat → Shared → Prop),
    (WalksS X.prog X.w X.A.in1 g foot writes Gens ps.length Item At ∧ At 0 s₅ ∧ ∀ b ∈ foot, b < s₅.heap.objs.size) ∧
    (∀ j v, Item j v → ∃ p, ps[j]? = some p ∧ Gives p.1 p.2 v) ∧ ∀ s₆, Moved writes Gens s₅ s₆ → ∃ H₂, Tabbed P H₁ H₂ ∧ Inv X pins σ H₂ s₆

theorem gen_made {c P : Addr} {elt iter : Expr} {xa xb : Str} {pa pb pt gpos : Pos} {kt : Nat} {sc : Scope} {te : TE} {k : Nat} {Q' : Value → Shared → Prop} {Want : List (Int × Int) → Hp → Prop} {Gives : Int → Int → Value → Prop}
    (room : Room k X.A) (TB : TabB X.base X.mg c P) (hcode : X.env.code = .ref c) (own : OwnScope X.env sc xa xb) (walked : PE X iter te) (plain : ∀ v, genFold iter X.env v = pure v) (I : Inv X pins σ H s)
    (each : ∀ s₁ H₁, Inv X pins σ H₁ s₁ → TabG H₁ P → EltAt X s₁ P sc xa xb elt Gives)
    (h : te σ H fun v H₁ => ∃ (a : Addr) (vs : List V) (ps : List (Int × Int)), v = .ref a ∧ (SqL X.K H₁ a vs ∨ SqT X.K H₁ a vs) ∧ Prs H₁ vs ps ∧ TabG H₁ P ∧ Want ps H₁)
    (fin : ∀ ps H₁ g s₅, Want ps H₁ → Fresh X pins σ H₁ P ps Gives g s₅ → Q' (.ref g) s₅) :
    wpAny (model X.prog X.w) X.A (eval (.GeneratorExp elt [⟨.Tuple [.Name xa pa, .Name xb pb] kt pt, iter, [], 0⟩] sc gpos) X.env) Q' X.xe s := by
  obtain ⟨⟨o1, o2, o3⟩, ⟨o4, o5, o6⟩, o7, o8⟩ := own
  have deep : X.A.depth < recursionLimit := by have := room.dp; omega
  refine wpAny_GeneratorExp_walksQT room.hd o2 (closure_ok o8) o7 o4 o5 o6 o3 o1 deep (thn (walked.run pins s σ H _ I h) fun u s₁ had => ?_) plain
  obtain ⟨_, H₁, I₁, rel, a, vs, ps, rfl, hS, hp, ⟨tb, hP, ok⟩, want⟩ := had
  cases rel
  have tabAt : s₁.heap.get? P = some { cls := .none, data := .fields tb } := I₁.hok P _ hP
  refine begin_pairs I₁ hS hp hP fun o beg => ?_
  obtain ⟨foot, Hold, At, Mid, W, holds, at0, low⟩ := beg
  have statics : cStatics < s₁.heap.objs.size ∧ cStatics ≠ P := by
    obtain ⟨_, ns, _⟩ := I₁.nolimit
    refine ⟨ns.lt, fun z => ?_⟩
    obtain ⟨ob, _, _, e, d, _⟩ := ns
    rw [z, tabAt] at e
    rw [← Option.some.inj e] at d
    cases d
  have quiet : (s₁.heap.push o).NoLimit := I₁.nolimit.push o
  refine ⟨quiet, code_there hcode (TB.code.keeps fun b u e => Heap.get?_push_of_some _ (I₁.bk b u e)) (Heap.get?_push_of_some _ tabAt) ok fun code h₃ tk more ext le tab₃ ok₃ => ?_⟩
  rw [Heap.size_push] at le
  have stays : ∀ b u, b ≠ P → s₁.heap.get? b = some u → h₃.get? b = some u := fun b u hb e => ext b u hb (Heap.get?_push_of_some _ e)
  obtain ⟨bm, ob, f1, f2, f3, f4, f5, f6, f7, f8⟩ := TB.bm
  have globals : Heap.Ns h₃ X.env.globals X.mg := by
    rw [I₁.ok.glob]
    exact ((I₁.mod.glob.keeps I₁.bk).push o).extBut ext TB.gP
  refine wpAny_builtinsFor (m := X.mg) globals f1 f2 (stays bm ob f4 (I₁.bk bm ob f5)) f6 f7 f8 ?_
  have later : ∀ b u, s₁.heap.get? b = some u → b ∉ [h₃.objs.size, s₁.heap.objs.size] := fun b u e z => by
    have lt := Heap.lt_size e
    rcases List.mem_cons.mp z with z' | z'
    · exact Nat.lt_irrefl _ (Nat.lt_of_lt_of_le (z' ▸ lt) (Nat.le_of_succ_le le))
    · exact Nat.lt_irrefl _ (List.mem_singleton.mp z' ▸ lt)
  refine ⟨_, _, _, _, _, _, _, fun _ => true, fun i y => i < ps.length → ∃ p, ps[i]? = some p ∧ Gives p.1 p.2 y, rfl, W, fun i xs hx => ?_, ?_, fun b hb => Nat.lt_of_lt_of_le (low b hb).1 le, quiet.extBut ext statics.2, fun z => Nat.ne_of_lt statics.1 (List.mem_singleton.mp z), fun ref kept => ⟨?_, ?_⟩, ?_⟩
  · obtain ⟨p, ta, tb', _, e⟩ := holds i xs hx.1 hx.2
    exact ⟨_, _, e⟩
  · exact (W X.A room.hd).frame _ _ _ at0 fun b hb u e => ext b u (low b hb).2 e
  · intro A' E' i va vb s₂ m _ _ _ _ _ _
    rw [List.forIn_nil]
    exact wpAny_pure ⟨rfl, _, _, rfl, fun _ _ e => e⟩
  · intro A' E' i va vb s₂ m calm hx _ ns ea eb still
    obtain ⟨p, ta, tb', ep, e⟩ := holds i _ hx.1 hx.2
    have e1 : va = .int p.1 ta := by have z := congrArg (·[0]?) e; simpa using z
    have e2 : vb = .int p.2 tb' := by have z := congrArg (·[1]?) e; simpa using z
    subst e1 e2
    refine wpAny_mono (each s₁ H₁ I₁ ⟨tb, hP, ok⟩ _ code A' E' p.1 p.2 ta tb' s₂ m calm (fun b u hb q => ?_) ns ea eb) (fun y s₃ r => ⟨fun _ => ⟨p, ep, r.1⟩, r.2⟩) fun _ _ q => q
    have q3 := stays b u hb q
    exact still b (List.mem_range.mpr (Heap.lt_size q3)) (fun z => later b u q (List.mem_cons_of_mem _ z)) u (kept b u q3)
  · intro g h₅ tk₅ gs bare above size kept W₅ at₅
    rw [GxR.passing_true, List.length_range] at W₅
    have above' : h₃.objs.size < g := above
    have size' : h₅.objs.size = g + 1 := size
    refine fin ps H₁ g _ want ⟨_, _, _, _, _, ⟨W₅.in4_1, at₅, fun b hb => ?_⟩, fun j v it => ?_, fun s₆ mv => ?_⟩
    · show b < h₅.objs.size
      rw [size']
      rcases List.mem_cons.mp hb with eg | e
      · rw [eg]; exact Nat.lt_succ_self g
      · refine Nat.lt_succ_of_le (Nat.le_trans ?_ (Nat.le_of_lt above'))
        rcases List.mem_cons.mp e with e' | e'
        · rw [e']; exact Nat.le_refl _
        · exact Nat.le_of_lt (List.mem_range.mp e')
    · obtain ⟨i, ei, hg⟩ := it
      have lt : j < ps.length := by
        have z := (List.getElem?_eq_some_iff.mp ei).1
        rwa [List.length_range] at z
      rw [List.getElem?_range lt] at ei
      cases ei
      exact hg lt
    · have all : ∀ b u, b ≠ P → s₁.heap.get? b = some u → s₆.heap.get? b = some u := fun b u hb e => mv.heap b u (later b u e) (kept b u (stays b u hb e))
      have tab₆ := mv.heap P _ (later P _ tabAt) (kept P _ tab₃)
      have J := inv_tab (more := more) (d' := s₆.drawn) (t' := s₆.toks) I₁ hP all tab₆ (AllBare.movedS (I₁.bare.push bare) mv)
      rw [sh_eta s₁ s₆ mv.os] at J
      exact ⟨_, ⟨⟨tb ++ more, upd_same, ok₃⟩, fun b hb => upd_ne hb⟩, J⟩

/-- the sum of g over the pairs -/
def sumP (g : Int → Int → Int) (ps : List (Int × Int)) : Int := (ps.map fun p => g p.1 p.2).sum
theorem preSum_is (g : Int → Int → Int) (ps : List (Int × Int)) (val : Nat → Int) (h : ∀ i p, ps[i]? = some p → val i = g p.1 p.2) : ∀ n, n ≤ ps.length → preSum val n = sumP g (ps.take n)
  | 0, _ => rfl
  | n + 1, hn => by
    have e : ps[n]? = some ps[n] := List.getElem?_eq_getElem hn
    show preSum val n + val n = _
    rw [preSum_is g ps val h n (by omega), h n _ e]
    unfold sumP
    rw [List.take_add_one, e, List.map_append, List.sum_append]
    show _ = _ + (g ps[n].1 ps[n].2 + 0)
    rw [Int.add_zero]
/-- what the reading of sum(..), any(..) over pairs asks: what is captured (Cap), the pairs, the table; then the answer -/
def tOver {α : Type} (K : PySem.W.Frag) (P : Addr) (Cap : L2.St → α → Prop) (ans : α → List (Int × Int) → V) (te : TE) : TE := fun σ H Q => ∃ x : α, Cap σ x ∧ te σ H fun v H₁ => ∃ (a : Addr) (vs : List V) (ps : List (Int × Int)), v = .ref a ∧ (SqL K H₁ a vs ∨ SqT K H₁ a vs) ∧ Prs H₁ vs ps ∧ TabG H₁ P ∧
  ∀ H₂, Tabbed P H₁ H₂ → Q (ans x ps) H₂
/-- how a built-in takes a generator over pairs -/
def Takes2 (X : Cx) (name : String) (Gives : Int → Int → Value → Prop) (ans : List (Int × Int) → V) : Prop :=
  ∀ (pins : List (Addr × Obj)) (σ : L2.St) (P : Addr) (ps : List (Int × Int)) (H₁ : Hp) (gen : Addr) (s₅ : Shared) (Q : VK), Fresh X pins σ H₁ P ps Gives gen s₅ → (∀ H₂, Tabbed P H₁ H₂ → Q (ans ps) H₂) →
    wpAny (model X.prog X.w) X.A (call (.builtin name) [.ref gen]) (EP X pins σ Q) X.xe s₅
theorem pe_over {α : Type} {name : String} {x : Str} {c P : Addr} {elt iter : Expr} {xa xb : Str} {pa pb pt p pos gpos : Pos} {kt : Nat} {sc : Scope} {Cap : L2.St → α → Prop} {Gives : α → Int → Int → Value → Prop} {ans : α → List (Int × Int) → V} {te : TE} {k : Nat} (takes : ∀ y, Takes2 X name (Gives y) (ans y))
    (room : Room k X.A) (glob : Gl X x) (free : X.mg x = none) (bltn : bootBuiltins x = some (.builtin name)) (TB : TabB X.base X.mg c P) (hcode : X.env.code = .ref c) (own : OwnScope X.env sc xa xb) (walked : PE X iter te)
    (each : ∀ pins σ s₁ H₁ y, Inv X pins σ H₁ s₁ → TabG H₁ P → Cap σ y → EltAt X s₁ P sc xa xb elt (Gives y)) (plain : ∀ v, genFold iter X.env v = pure v) (n1 : x ≠ "__name__" := by decide) (n2 : (x == ("__debug__" : Str)) = false := by decide)
    (one : starEach [.GeneratorExp elt [⟨.Tuple [.Name xa pa, .Name xb pb] kt pt, iter, [], 0⟩] sc gpos] X.env = [(false, eval (.GeneratorExp elt [⟨.Tuple [.Name xa pa, .Name xb pb] kt pt, iter, [], 0⟩] sc gpos) X.env)] := by rfl) :
    PE X (.Call (.Name x p) [.GeneratorExp elt [⟨.Tuple [.Name xa pa, .Name xb pb] kt pt, iter, [], 0⟩] sc gpos] [] pos) (tOver X.K P Cap ans te) := by
  constructor
  intro pins s σ H Q I h
  obtain ⟨y, cap, h⟩ := h
  refine wpAny_Call_Name_kw (ld_blt I glob free bltn (callWith_builtin1 ?_ one (by rfl)) n1 n2)
  rw [one]
  refine Calls.spliced_cons (gen_made (Want := fun ps H₁ => ∀ H₂, Tabbed P H₁ H₂ → Q (ans y ps) H₂) (Gives := Gives y) room TB hcode own walked plain I (fun s₁ H₁ J g => each pins σ s₁ H₁ y J g cap) h fun ps H₁ gen s₅ want fresh => Calls.spliced_nil ?_)
  exact takes y pins σ P ps H₁ gen s₅ Q fresh want
theorem takes_sum (g : Int → Int → Int) : Takes2 X "sum" (fun a b y => ∃ t, y = .int (g a b) t) (fun ps => .int (sumP g ps)) := by
  intro pins σ P ps H₁ gen s₅ Q fresh want
  obtain ⟨foot, writes, Gens, Item, At, ⟨W, a0, low⟩, items, behind⟩ := fresh
  let val : Nat → Int := fun i => (ps[i]?.map fun p => g p.1 p.2).getD 0
  have hv : ∀ i p, ps[i]? = some p → val i = g p.1 p.2 := fun i p e => by show (ps[i]?.map _).getD 0 = _; rw [e]; rfl
  refine call_sum_walkAnyS (W.self 0 _ _ _ a0 ⟨gen, foot, writes, Gens, ps.length, Item, At, val, rfl, W, a0, low, fun i v it => ?_, fun s₆ t mv => ?_⟩)
  · obtain ⟨p, e, t, ev⟩ := items i v it
    exact ⟨t, by rw [hv i p e]; exact ev⟩
  · obtain ⟨H₂, tabbed, J⟩ := behind s₆ mv
    refine ⟨.int (preSum val ps.length), H₂, J, ⟨t, rfl⟩, ?_⟩
    rw [preSum_is g ps val hv ps.length (Nat.le_refl _), List.take_length]
    exact want H₂ tabbed
def anyP (g : Int → Int → Bool) (ps : List (Int × Int)) : Bool := ps.any fun p => g p.1 p.2
theorem any_is {α : Type} (ps : List α) (f : α → Bool) (tr : Nat → Bool) (h : ∀ i p, ps[i]? = some p → tr i = f p) : (List.range ps.length).any tr = ps.any f := by
  rw [Bool.eq_iff_iff, List.any_eq_true (l := List.range _), List.any_eq_true]
  constructor
  · rintro ⟨i, hi, e⟩
    have lt := List.mem_range.mp hi
    exact ⟨ps[i], List.getElem_mem lt, by rw [← h i _ (List.getElem?_eq_getElem lt)]; exact e⟩
  · rintro ⟨p, hp, e⟩
    obtain ⟨i, lt, rfl⟩ := List.getElem_of_mem hp
    exact ⟨i, List.mem_range.mpr lt, by rw [h i _ (List.getElem?_eq_getElem lt)]; exact e⟩
theorem takes_any (g : Int → Int → Bool) : Takes2 X "any" (fun a b y => y = .bool (g a b)) (fun ps => .bl (anyP g ps)) := by
  intro pins σ P ps H₁ gen s₅ Q fresh want
  obtain ⟨foot, writes, Gens, Item, At, ⟨W, a0, low⟩, items, behind⟩ := fresh
  let tr : Nat → Bool := fun i => (ps[i]?.map fun p => g p.1 p.2).getD false
  have ht : ∀ i p, ps[i]? = some p → tr i = g p.1 p.2 := fun i p e => by show (ps[i]?.map _).getD false = _; rw [e]; rfl
  refine call_any_walkS (W.self 0 _ _ _ a0 ⟨gen, foot, writes, Gens, ps.length, Item, At, tr, rfl, W, a0, fun i v s' Q' E' it q => ?_, fun s₆ mv => ?_⟩)
  · obtain ⟨p, e, rfl⟩ := items i v it
    rw [ht i p e] at q
    exact wpAny_truthy_bool q
  · obtain ⟨H₂, tabbed, J⟩ := behind s₆ mv
    refine ⟨.bl _, H₂, J, rfl, ?_⟩
    rw [any_is ps (fun p => g p.1 p.2) tr ht]
    exact want H₂ tabbed
/-- a whole number that the expression captures, as its cell has it -/
theorem captured {i : Nat} {y : Str} {n : Int} {P : Addr} (I : Inv X pins σ H s) (hN : X.N[i]? = some y) (hk : X.env.scope.names.lookup y = some .cell) (hv : σ[i]? = some (some (.int n))) (g : TabG H P) :
    ∃ c t, X.env.cells.lookup y = some c ∧ s.heap.IsCell c (some (.int n t)) ∧ c ≠ P := by
  obtain ⟨tb, hP, _⟩ := g
  obtain ⟨m, _, look⟩ := I.loc
  obtain ⟨u, ⟨t, rfl⟩, l⟩ := look i y _ hN hv (.inr (.inl hk))
  rcases l with ⟨z, _⟩ | ⟨_, c, e, o, ho, hd⟩
  · rw [show X.env.kindOf y = some .cell from hk] at z
    cases z
  · refine ⟨c, t, e, ⟨o, ho, hd⟩, fun z => ?_⟩
    rw [z, I.hok P _ hP] at ho
    rw [← Option.some.inj ho] at hd
    cases hd
/-- the names of the module and the built-in ones, where the expression runs -/
theorem names_in {P : Addr} {s₂ : Shared} (I : Inv X pins σ H s) (g : TabG H P) (gP : mainGlobals ≠ P) (kept : ∀ x o, x ≠ P → s.heap.get? x = some o → s₂.heap.get? x = some o) :
    s₂.heap.Ns mainGlobals X.mg ∧ ∃ mb, s₂.heap.Ns builtinsNs mb ∧ ∀ x : Str, x ≠ "__name__" → mb x = bootBuiltins x := by
  obtain ⟨tb, hP, _⟩ := g
  obtain ⟨mb, b1, b2⟩ := I.mod.blt
  have at_ : ∀ b m, b ≠ P → s.heap.Ns b m → s₂.heap.Ns b m := fun b m hb ⟨o, es, ep, ho, r⟩ => ⟨o, es, ep, kept b o hb ho, r⟩
  refine ⟨at_ _ _ gP (I.mod.glob.keeps I.bk), mb, at_ _ _ (fun z => ?_) (b1.keeps I.bk), b2⟩
  obtain ⟨o, es, ep, ho, hd, _⟩ := b1.keeps I.bk
  rw [z, I.hok P _ hP] at ho
  rw [← Option.some.inj ho] at hd
  cases hd
end
end GP

namespace TK
open PySem PySem.Spec PyProof.Rows L2 GP
def topS (i : Nat) : Stmt := PySem.Challenge.pw_tinrecall_k45_costs_put_otherwise.main.body.getD i (.Pass ⟨0, 0, 0, 0⟩)

/-- the draws' state: its dict at d, its cells at c -/
structure StAt (H : Hp) (d c : Addr) (t : Int) : Prop where
  dict : H d = some (.dK [(.inr "cells", .ref c), (.inr "turn", .int t)])
  cells : ∃ cs : List Int, H c = some (.lst (cs.map V.int)) ∧ cs ≠ [] ∧ cs.length ≤ 63
  pos : 0 ≤ t
theorem StAt.ne {H : Hp} {d c : Addr} {t : Int} (h : StAt H d c t) : d ≠ c := by
  obtain ⟨cs, hc, _⟩ := h.cells
  exact ne_of h.dict hc (by intro z; cases z)
/-- all but the state is as it was -/
def Kp (d c : Addr) (H H' : Hp) : Prop := ∀ b o, b ≠ d → b ≠ c → H b = some o → H' b = some o
theorem Kp.refl (d c : Addr) (H : Hp) : Kp d c H H := fun _ _ _ _ h => h
theorem Kp.trans {d c : Addr} {H H1 H2 : Hp} (a : Kp d c H H1) (b : Kp d c H1 H2) : Kp d c H H2 := fun x o h1 h2 h => b x o h1 h2 (a x o h1 h2 h)

theorem ixN_of {n j : Nat} (h : j < n) : ixN n (j : Int) = some j := by
  unfold ixN
  rw [if_pos (Int.natCast_nonneg j), if_pos (by omega), Int.toNat_natCast]
def spTake : Sp := fun vs H Q _ => ∃ (d c : Addr) (t m : Int), vs = [.ref d, .int m] ∧ StAt H d c t ∧ t < 2 ^ 60 ∧ 0 < m ∧ m.natAbs < 2 ^ 250 ∧
  ∀ r H', 0 ≤ r → r < m → StAt H' d c (t + 1) → Kp d c H H' → Q (.int r) H'

abbrev sTake : Stmt := topS 25
theorem scTake : FnScope ["_law_state", "_law_many", "_law_turn", "_law_place", "_law_cell", "_law_digit", "_law_mixed"] ["_law_state", "_law_many"] (defScope sTake) := ⟨rfl, rfl, rfl, by decide +kernel, rfl, by decide +kernel, by decide +kernel⟩
section
variable {K : PySem.W.Frag} {mg : Str → Option Value} {P : Program} {w : World} {base : Heap}
theorem ok_take {f : Addr} {fd : FuncData} {k : Nat} (F : Fun K "_law_take" "_law_take" sTake f fd) (ml : mg "len" = none) (md : mg "divmod" = none) : FnOk P w K mg base CX0 (k + 1) f fd ["_law_state", "_law_many"] spTake := by
  refine F.ok scTake (fun vs H Q E h => ?_) (fun cdv A outer s H vs Q E hr h => ?_)
  · obtain ⟨d, c, t, m, rfl, _⟩ := h
    rfl
  · obtain ⟨d, c, t, m, rfl, hS, ht, hm, hm2, q⟩ := h
    refine ⟨_, pss_cons (ps_set (i := 2) scTake.nd rfl (.inl rfl) (pe_op op_add (pe_dget (hu_of hr) (pv 0) pe_str (fun _ _ => rfl)) pe_int))
      (pss_cons (ps_dput (hu_of hr) (pv 0) pe_str (pv 2) rfl)
      (pss_cons (ps_set (i := 3) scTake.nd rfl (.inl rfl) (pe_op op_mod (pv 2) (pe_callB call_len_seq (by rfl) ml PySem.boot_len (pa_cons (pe_dget (hu_of hr) (pv 0) pe_str (fun _ _ => rfl)) pa_nil))))
      (pss_cons (ps_set (i := 4) scTake.nd rfl (.inl rfl) (pe_ix ix_list (pe_dget (hu_of hr) (pv 0) pe_str (fun _ _ => rfl)) (pv 3) (fun _ _ => rfl)))
      (pss_cons (ps_if (pt_cmpR op_ge (pv 4) (pe_op op_pow pe_int pe_int) (nomark _))
        (pss_cons (ps_asg (pe_callB call_divmodW (by rfl) md (by decide +kernel) (pa_cons (pv 4) (pa_cons (pv 1) pa_nil)))
            (pg_tup rfl (pgs_cons (pg_sub (pe_dget (hu_of hr) (pv 0) pe_str (fun _ _ => rfl)) (pv 3) set_list) (pgs_cons (pg_name (i := 5) scTake.nd rfl (.inl rfl)) pgs_nil))))
          (pss_one (ps_ret (pv 5)))) pss_nil)
      (pss_cons (ps_set (i := 6) scTake.nd rfl (.inl rfl) (pe_op op_mod (pe_op op_mul (pe_op op_add (pe_op op_add (pe_op op_mod (pv 4) pe_int) (pe_op op_mul (pe_op op_mul (pv 2) (pv 2)) pe_int)) pe_int) pe_int) pe_int))
      (pss_cons (ps_set (i := 6) scTake.nd rfl (.inl rfl) (pe_op op_mod (pe_op op_mul (pv 6) (pv 6)) pe_int))
      (pss_one (ps_ret (pe_op op_mod (pe_op op_fdiv (pe_op op_mod (pe_op op_mul (pe_op op_add (pv 6) (pe_op op_mul (pv 2) pe_int)) pe_int) pe_int) pe_int) (pv 1)))))))))), ?_⟩
    obtain ⟨hd, ⟨cs, hc, hne, hlen⟩, hpos⟩ := hS
    have ndc : d ≠ c := ne_of hd hc (by intro z; cases z)
    -- turn = state['turn'] + 1
    refine ⟨.ref d, rfl, d, .int t, rfl, DGet.k (k := Sum.inr "turn") hd, t, 1, rfl, rfl, ?_⟩
    -- state['turn'] = turn
    refine ⟨_, rfl, .ref d, rfl, d, _, rfl, DPut.k (k := Sum.inr "turn") hd (by show 2 < sizeLine; decide), ?_⟩
    have hput : putK [((.inr "cells" : Key), V.ref c), (.inr "turn", .int t)] (.inr "turn") (.int (t + 1)) = [(.inr "cells", .ref c), (.inr "turn", .int (t + 1))] := rfl
    rw [show (.int (t + 1) : V) = V.int (t + 1) from rfl] at *
    rw [hput]
    generalize hH1 : upd H d (.dK [((.inr "cells" : Key), V.ref c), (.inr "turn", .int (t + 1))]) = H1
    have hd1 : H1 d = some (.dK [(.inr "cells", .ref c), (.inr "turn", .int (t + 1))]) := by rw [← hH1]; exact upd_same
    have hc1 : H1 c = some (.lst (cs.map V.int)) := by rw [← hH1, upd_ne ndc.symm]; exact hc
    have k1 : Kp d c H H1 := fun b o h1 h2 e => by rw [← hH1, upd_ne h1]; exact e
    have hlp : 0 < cs.length := List.length_pos_iff.mpr hne
    -- place = turn % len(state['cells'])
    refine ⟨_, rfl, .ref d, rfl, d, .ref c, rfl, DGet.k (k := Sum.inr "cells") hd1, c, _, rfl, .inl (SqL.of hc1), _, _, rfl, rfl, (by show (0 : Int) < ((cs.map V.int).length : Int); rw [List.length_map]; omega), ?_⟩
    dsimp only
    rw [List.length_map]
    have hj0 : 0 ≤ (t + 1) % (cs.length : Int) := Int.emod_nonneg _ (by omega)
    have hj1 : (t + 1) % (cs.length : Int) < cs.length := Int.emod_lt_of_pos _ (by omega)
    obtain ⟨j, hj⟩ := Int.eq_ofNat_of_zero_le hj0
    have hjl : j < cs.length := by omega
    rw [hj]
    have gj : (cs.map V.int)[j]? = some (.int cs[j]) := by rw [List.getElem?_map, List.getElem?_eq_getElem hjl]; rfl
    -- cell = state['cells'][place]
    refine ⟨.ref d, rfl, d, .ref c, rfl, DGet.k (k := Sum.inr "cells") hd1, _, rfl, c, _, _, .int cs[j], rfl, rfl, SqL.of hc1, atI_nat gj, ?_⟩
    generalize cs[j] = x
    -- if cell >= 10 ** 18
    refine ⟨_, rfl, 10, 18, rfl, rfl, ⟨by decide, by decide, by decide⟩, _, _, rfl, rfl, _, rfl, ite2 (fun e => ?_) (fun e => ?_)⟩
    · have hdp : CDivP x m := ⟨hm, PyProof.noPylong_of_log2 (Nat.lt_trans (PySem.Flt.log2_lt_of (by decide) hm2) (by decide))⟩
      refine ⟨_, rfl, _, rfl, x, m, rfl, hdp, fun p hp => ?_⟩
      have npd : d ≠ p := ne_of_none hd1 hp
      have npc : c ≠ p := ne_of_none hc1 hp
      have hd2 : upd H1 p (.tup [.int (x / m), .int (x % m)]) d = some (.dK [(.inr "cells", .ref c), (.inr "turn", .int (t + 1))]) := by rw [upd_ne npd]; exact hd1
      have hc2 : upd H1 p (.tup [.int (x / m), .int (x % m)]) c = some (.lst (cs.map V.int)) := by rw [upd_ne npc]; exact hc1
      refine ⟨p, _, rfl, .inl (.inl upd_same), rfl, _, _, rfl, .ref d, rfl, d, .ref c, rfl, DGet.k (k := Sum.inr "cells") hd2, _, rfl, c, _, _, j, rfl, rfl, hc2, ixN_of (by rw [List.length_map]; exact hjl), _, _, rfl, rfl, ?_⟩
      refine ⟨_, rfl, ?_⟩
      refine q _ _ (Int.emod_nonneg _ (by omega)) (Int.emod_lt_of_pos _ hm) ⟨?_, ⟨cs.set j (x / m), ?_, ?_, ?_⟩, by omega⟩ ?_
      · rw [upd_ne ndc]; exact hd2
      · rw [upd_same, List.map_set]
      · intro z
        have z2 : (cs.set j (x / m)).length = 0 := by rw [z]; rfl
        rw [List.length_set] at z2
        omega
      · rw [List.length_set]; exact hlen
      · intro b o h1 h2 e
        rw [upd_ne h2, upd_ne (ne_of_none (k1 b o h1 h2 e) hp)]
        exact k1 b o h1 h2 e
    · have t1 : t + 1 < 2 ^ 61 := by omega
      -- mixed
      refine ⟨_, rfl, _, _, rfl, rfl, (show (0 : Int) < 2147483629 by decide), _, rfl, _, rfl, t + 1, t + 1, rfl, rfl, .inl ⟨by omega, by omega⟩, _, _, rfl, rfl, .inr ⟨by decide, by decide⟩, _, _, rfl, rfl, _, _, rfl, rfl, _, _, rfl, rfl, .inr ⟨by decide, by decide⟩, _, 2147483647, rfl, rfl, (show (0 : Int) < 2147483647 by decide), ?_⟩
      dsimp only
      generalize hy : ((x % 2147483629 + (t + 1) * (t + 1) * 7919 + 11) * 48271) = y
      have y0 : 0 ≤ y % 2147483647 := Int.emod_nonneg _ (by decide)
      have y1 : y % 2147483647 < 2147483647 := Int.emod_lt_of_pos _ (by decide)
      refine ⟨_, rfl, _, rfl, y % 2147483647, y % 2147483647, rfl, rfl, .inl ⟨by omega, by omega⟩, _, 2147483587, rfl, rfl, (show (0 : Int) < 2147483587 by decide), ?_⟩
      refine ⟨_, rfl, _, rfl, t + 1, 104729, rfl, rfl, .inr ⟨by decide, by decide⟩, _, _, rfl, rfl, _, _, rfl, rfl, .inr ⟨by decide, by decide⟩, _, 2147483629, rfl, rfl, (show (0 : Int) < 2147483629 by decide), _, 64, rfl, rfl, ⟨by decide, by decide⟩, _, rfl, _, m, rfl, rfl, hm, ?_⟩
      exact q _ _ (Int.emod_nonneg _ (by omega)) (Int.emod_lt_of_pos _ hm) ⟨hd1, ⟨cs, hc1, hne, hlen⟩, by omega⟩ k1
end

abbrev sBegin : Stmt := topS 24
theorem scBegin : FnScope ["_law_script", "_law_cells"] ["_law_script"] (defScope sBegin) := ⟨rfl, rfl, rfl, by decide +kernel, rfl, by decide +kernel, by decide +kernel⟩
theorem same_upd {H : Hp} {p : Addr} {o : HO} (h : H p = none) : Same H (upd H p o) := fun b x e => by
  rw [upd_ne (ne_of_none e h)]
  exact e
theorem cut_front (xs : List V) (m : Nat) : cutV xs none (some (m : Int)) = xs.take m := by
  unfold cutV
  rw [HT.sIx_none, HT.sIx_nat]
  show List.take (min m xs.length - 0) (xs.drop 0) = xs.take m
  rw [Nat.sub_zero, List.drop_zero]
  by_cases h : m ≤ xs.length
  · rw [Nat.min_eq_left h]
  · rw [Nat.min_eq_right (by omega), List.take_length, List.take_of_length_le (by omega)]
theorem dp_ints {K : PySem.W.Frag} {H : Hp} : ∀ ns : List Int, DpAll K H (ns.map V.int) (ns.map PyData.int)
  | [] => .nil
  | n :: r => .cons (.int n) (dp_ints r)
theorem lay_ints : ∀ ns : List Int, PyData.canLayAll0 (ns.map PyData.int) = true
  | [] => by simp only [List.map_nil, PyData.canLayAll0]
  | n :: r => by
    rw [List.map_cons, PyData.canLayAll0, lay_ints r]
    simp [PyData.canLay0]
theorem depth_ints : ∀ ns : List Int, PyData.depthAll (ns.map PyData.int) = 0
  | [] => by simp only [List.map_nil, PyData.depthAll]
  | n :: r => by
    rw [List.map_cons, PyData.depthAll, depth_ints r]
    simp [PyData.depth]
theorem shaped_ints (ns : List Int) : SeqAt.shaped (PyData.list (ns.map PyData.int)) = true := by
  unfold SeqAt.shaped
  rw [PyData.canLay0, lay_ints, PyData.depth, depth_ints]
  rfl
theorem eqv_nil (n : Int) (r : List Int) : PyData.eqv (PyData.list ((n :: r).map PyData.int)) (PyData.list []) = false := by
  simp [PyData.eqv, PyData.eqvAll]
theorem eqv_nil0 : PyData.eqv (PyData.list (([] : List Int).map PyData.int)) (PyData.list []) = true := by
  simp [PyData.eqv, PyData.eqvAll]
def spBegin (K : PySem.W.Frag) : Sp := fun vs H Q _ => ∃ (a : Addr) (ns : List Int), vs = [.ref a] ∧ SqL K H a (ns.map V.int) ∧ ns.length ≤ 63 ∧
  ∀ d c H', Same H H' → H d = none → H c = none → StAt H' d c 0 → Q (.ref d) H'
section
variable {K : PySem.W.Frag} {mg : Str → Option Value} {P : Program} {w : World} {base : Heap}
theorem ok_begin {f : Addr} {fd : FuncData} {k : Nat} (F : Fun K "_law_begin" "_law_begin" sBegin f fd) (ml : mg "list" = none) : FnOk P w K mg base CX0 (k + 1) f fd ["_law_script"] (spBegin K) := by
  refine F.ok scBegin (fun vs H Q E h => ?_) (fun cdv A outer s H vs Q E hr h => ?_)
  · obtain ⟨a, ns, rfl, _⟩ := h
    rfl
  · obtain ⟨a, ns, rfl, hS, hlen, q⟩ := h
    refine ⟨_, pss_cons (ps_set (i := 1) scBegin.nd rfl (.inl rfl) (pe_callTy call_list_of (by rfl) ml (by decide +kernel) (pa_cons (pe_slice sl_list (pv 0) po_none (po_some pe_int)) pa_nil)))
      (pss_cons (ps_if (pt_cmpR (op_eqD hr.units) (pv 1) (pe_lst pa_nil) (nomark _)) (pss_one (ps_set (i := 1) scBegin.nd rfl (.inl rfl) (pe_lst (pa_cons pe_int pa_nil)))) pss_nil)
      (pss_one (ps_ret (pe_disp (pps_cons pe_str (pv 1) (pps_cons pe_str pe_int pps_nil)) (by rfl) (by rfl) (fun z => by cases z) (by decide))))), ?_⟩
    -- the end: a dict of what stands at the cells' place
    have fin : ∀ (H1 : Hp) (c : Addr) (cs : List Int) (y : Option V), Same H H1 → H c = none → H1 c = some (.lst (cs.map V.int)) → cs ≠ [] → cs.length ≤ 63 →
        (tRet (tDisp [(tC (.str "cells"), tVar 1), (tC (.str "turn"), tC (.int 0))])) { nx := fun _ H' => Q .non H', rt := Q } [some (.ref a), some (.ref c)] H1 := by
      intro H1 c cs y s1 nc ec hne hl
      refine fun d nd => ⟨_, rfl, upd_same, [(.inr "cells", .ref c), (.inr "turn", .int 0)], rfl, (by show 2 ≤ 15; decide), ?_⟩
      have ndc : c ≠ d := ne_of_none ec nd
      refine q d c _ (fun b o e => ?_) (s1.free nd) nc ⟨?_, ⟨cs, ?_, hne, hl⟩, by decide⟩
      · have nb : b ≠ d := ne_of_none (s1 b o e) nd
        rw [upd_ne nb, upd_ne nb]
        exact s1 b o e
      · exact upd_same
      · rw [upd_ne ndc, upd_ne ndc]
        exact ec
    refine ⟨.ref a, rfl, 63, rfl, a, ns.map V.int, rfl, hS, fun p np => ?_⟩
    have s1 : Same H (upd H p (.lst (cutV (ns.map V.int) none (some 63)))) := same_upd np
    refine ⟨p, _, rfl, .inl (SqL.of upd_same), fun l nl => ?_⟩
    have s2 := s1.trans (same_upd (o := .lst (cutV (ns.map V.int) none (some 63))) nl)
    have ecut : cutV (ns.map V.int) none (some 63) = ns.map V.int := by
      have e := cut_front (ns.map V.int) 63
      have e2 : cutV (ns.map V.int) none (some 63) = (ns.map V.int).take 63 := e
      rw [e2, List.take_of_length_le (by rw [List.length_map]; exact hlen)]
    have el : upd (upd H p (.lst (cutV (ns.map V.int) none (some 63)))) l (.lst (cutV (ns.map V.int) none (some 63))) l = some (.lst (ns.map V.int)) := by
      rw [upd_same, ecut]
    revert s2 el
    generalize upd (upd H p (.lst (cutV (ns.map V.int) none (some 63)))) l (.lst (cutV (ns.map V.int) none (some 63))) = H2
    intro s2 el
    have nlH : H l = none := s1.free nl
    -- if cells == []
    refine ⟨.ref l, rfl, Nat.zero_le _, fun z nz => ?_⟩
    have s3 := s2.trans (same_upd (o := .lst []) nz)
    have nlz : l ≠ z := ne_of_none el nz
    have el3 : upd H2 z (.lst []) l = some (.lst (ns.map V.int)) := by rw [upd_ne nlz]; exact el
    refine ⟨.list (ns.map PyData.int), .list [], .lst (SqL.of el3) (dp_ints ns), .lst (SqL.of upd_same) .nil, shaped_ints ns, shaped_ints [], ?_⟩
    cases ns with
    | nil =>
      refine ⟨true, by rw [eqv_nil0], iteT ?_⟩
      refine ⟨(by show 1 ≤ sizeLine; decide), fun c nc => ?_⟩
      exact fin _ c [_] none (s3.trans (same_upd nc)) (s3.free nc) upd_same (by simp) (by decide)
    | cons n r =>
      refine ⟨false, by rw [eqv_nil], iteF ?_⟩
      exact fin _ l (n :: r) none s3 nlH el3 (by simp) hlen
end

/-- a def of the text that keeps a promise, as its callers see it -/
def Cal (P : Program) (w : World) (K : PySem.W.Frag) (mg : Str → Option Value) (base : Heap) (k : Nat) (x : Str) (ps : List Str) (sp : Sp) : Prop :=
  ∃ f fd, FnOk P w K mg base CX0 k f fd ps sp ∧ mg x = some (.ref f) ∧ PySem.W.keepIn K (.ref f) = true ∧ Binds K fd ps []
theorem pe_own {X : Cx} {k : Nat} {x : Str} {ps : List Str} {sp : Sp} {e : Expr} {es : List Expr} {t : TA} {p pos : Pos} (C : Cal X.prog X.w X.K X.mg X.base k x ps sp) (hr : Room k X.A) (hg : Gl X x) (ha : PA X (e :: es) t)
    (dbg : (x == ("__debug__" : Str)) = false := by decide) (one : starEach (e :: es) X.env = (false, eval e X.env) :: starEach es X.env := by rfl) (star : (backTo pos (starEach es X.env)).any (·.1) = false := by rfl) :
    PE X (.Call (.Name x p) (e :: es) [] pos) (tCall sp [] E0 t) := by
  obtain ⟨f, fd, F, hm, hk, hb⟩ := C
  exact pe_call F hr hg hm hk hb .nil pass0 ha dbg one star
theorem StAt.same {H H' : Hp} {d c : Addr} {t : Int} (h : StAt H d c t) (s : Same H H') : StAt H' d c t :=
  ⟨s _ _ h.dict, let ⟨cs, e, r⟩ := h.cells; ⟨cs, s _ _ e, r⟩, h.pos⟩
theorem Kp.same {H H' : Hp} (d c : Addr) (s : Same H H') : Kp d c H H' := fun b o _ _ e => s b o e
/-- what is made behind the state stays -/
theorem Kp.at {H H' : Hp} {d c a : Addr} {t : Int} {o : HO} (k : Kp d c H H') (S : StAt H d c t) (e : H a = some o) (h1 : ∀ kvs, o ≠ .dK kvs) (h2 : ∀ ns : List Int, o ≠ .lst (ns.map V.int)) : H' a = some o := by
  obtain ⟨cs, ec, _⟩ := S.cells
  refine k a o (fun z => ?_) (fun z => ?_) e
  · rw [z, S.dict] at e
    exact h1 _ (Option.some.inj e).symm
  · rw [z, ec] at e
    exact h2 _ (Option.some.inj e).symm
theorem StAt.upd {H : Hp} {d c l : Addr} {t : Int} {o : HO} (S : StAt H d c t) (h1 : l ≠ d) (h2 : l ≠ c) : StAt (L2.upd H l o) d c t := by
  refine ⟨by rw [upd_ne h1.symm]; exact S.dict, ?_, S.pos⟩
  obtain ⟨cs, ec, r⟩ := S.cells
  exact ⟨cs, by rw [upd_ne h2.symm]; exact ec, r⟩

theorem _root_.GP.Prs.same {H H' : Hp} {vs : List V} {ps : List (Int × Int)} (h : Prs H vs ps) (s : Same H H') : Prs H' vs ps :=
  ⟨h.1, fun i p e => let ⟨a, e1, e2⟩ := h.2 i p e; ⟨a, e1, s _ _ e2⟩⟩
theorem _root_.GP.Prs.kp {H H' : Hp} {d c : Addr} {t : Int} {vs : List V} {ps : List (Int × Int)} (h : Prs H vs ps) (S : StAt H d c t) (k : Kp d c H H') : Prs H' vs ps :=
  ⟨h.1, fun i p e => let ⟨a, e1, e2⟩ := h.2 i p e; ⟨a, e1, k.at S e2 (fun _ z => nomatch z) (fun _ z => nomatch z)⟩⟩
theorem _root_.GP.Prs.upd_lst {H : Hp} {l : Addr} {xs : List V} {o : HO} {vs : List V} {ps : List (Int × Int)} (h : Prs H vs ps) (hl : H l = some (.lst xs)) : Prs (upd H l o) vs ps :=
  ⟨h.1, fun i p e => let ⟨a, e1, e2⟩ := h.2 i p e; ⟨a, e1, by rw [upd_ne (ne_of e2 hl (fun z => nomatch z))]; exact e2⟩⟩
theorem _root_.GP.Prs.nil {H : Hp} : Prs H [] [] := ⟨rfl, fun i p e => by simp at e⟩
theorem _root_.GP.Prs.snoc {H : Hp} {a : Addr} {x y : Int} {vs : List V} {ps : List (Int × Int)} (h : Prs H vs ps) (e : H a = some (.tup [.int x, .int y])) : Prs H (vs ++ [.ref a]) (ps ++ [(x, y)]) := by
  refine ⟨by simp [h.1], fun i p ep => ?_⟩
  by_cases hi : i < ps.length
  · rw [List.getElem?_append_left hi] at ep
    obtain ⟨b, e1, e2⟩ := h.2 i p ep
    exact ⟨b, by rw [List.getElem?_append_left (by rw [h.1]; exact hi)]; exact e1, e2⟩
  · rw [List.getElem?_append_right (by omega)] at ep
    have hz : i - ps.length = 0 := by
      cases hq : i - ps.length with
      | zero => rfl
      | succ n => rw [hq] at ep; simp at ep
    rw [hz] at ep
    have ep' : (x, y) = p := by simpa using ep
    subst ep'
    refine ⟨a, ?_, e⟩
    rw [List.getElem?_append_right (by rw [h.1]; omega), h.1, hz]
    rfl
/-- rising stretches with gaps, from lo on -/
def Ris : Int → List (Int × Int) → Prop
  | _, [] => True
  | lo, p :: r => lo ≤ p.1 ∧ p.1 ≤ p.2 ∧ Ris (p.2 + 2) r
theorem Ris.snoc : ∀ {lo : Int} {ps : List (Int × Int)} {a b : Int}, Ris lo ps → lo ≤ a → (∀ p ∈ ps, p.2 + 2 ≤ a) → a ≤ b → Ris lo (ps ++ [(a, b)])
  | lo, [], a, b, _, h1, _, h3 => ⟨h1, h3, True.intro⟩
  | lo, p :: r, a, b, h, h1, h2, h3 => ⟨h.1, h.2.1, Ris.snoc h.2.2 (h2 p (List.mem_cons_self ..)) (fun q hq => h2 q (List.mem_cons_of_mem _ hq)) h3⟩
theorem pick2 {x y r : Int} (Pv : Int → Prop) (h0 : 0 ≤ r) (h1 : r < 2) (hx : Pv x) (hy : Pv y) : ∃ v, Pv v ∧ atI [V.int x, V.int y] r = some (.int v) := by
  have : r = 0 ∨ r = 1 := by omega
  rcases this with rfl | rfl
  · exact ⟨x, hx, rfl⟩
  · exact ⟨y, hy, rfl⟩
theorem pick3 {x y z r : Int} (Pv : Int → Prop) (h0 : 0 ≤ r) (h1 : r < 3) (hx : Pv x) (hy : Pv y) (hz : Pv z) : ∃ v, Pv v ∧ atI [V.int x, V.int y, V.int z] r = some (.int v) := by
  have : r = 0 ∨ r = 1 ∨ r = 2 := by omega
  rcases this with rfl | rfl | rfl
  · exact ⟨x, hx, rfl⟩
  · exact ⟨y, hy, rfl⟩
  · exact ⟨z, hz, rfl⟩
/-- a new object stands through the state's change -/
theorem Kp.new {H H' : Hp} {d c l : Addr} {t : Int} {o : HO} (k : Kp d c (upd H l o) H') (S : StAt H d c t) (n : H l = none) : H' l = some o := by
  obtain ⟨cs, ec, _⟩ := S.cells
  exact k l o (ne_of_none S.dict n).symm (ne_of_none ec n).symm upd_same
theorem drop_at {α : Type} {l : List α} {i : Nat} {x : α} (h : l[i]? = some x) : l.drop i = x :: l.drop (i + 1) := by
  obtain ⟨lt, e⟩ := List.getElem?_eq_some_iff.mp h
  rw [← e]
  exact List.drop_eq_getElem_cons lt
theorem prs_at {H : Hp} {vs : List V} {ps : List (Int × Int)} {i : Nat} {x : V} (h : Prs H vs ps) (e : vs[i]? = some x) : ∃ (p : Int × Int) (a : Addr), ps[i]? = some p ∧ x = .ref a ∧ H a = some (.tup [.int p.1, .int p.2]) := by
  obtain ⟨hi, _⟩ := List.getElem?_eq_some_iff.mp e
  have hi2 : i < ps.length := by rw [← h.1]; exact hi
  obtain ⟨a, e1, e2⟩ := h.2 i ps[i] (List.getElem?_eq_getElem hi2)
  rw [e] at e1
  exact ⟨ps[i], a, List.getElem?_eq_getElem hi2, Option.some.inj e1, e2⟩

theorem sumP_append (g : Int → Int → Int) (ps qs : List (Int × Int)) : sumP g (ps ++ qs) = sumP g ps + sumP g qs := by
  unfold sumP
  rw [List.map_append, List.sum_append]
def inB (n a b : Int) : Bool := decide (a ≤ n) && decide (n ≤ b)
theorem Ris.le : ∀ {lo : Int} {ps : List (Int × Int)}, Ris lo ps → ∀ p ∈ ps, lo ≤ p.1 ∧ p.1 ≤ p.2
  | _, [], _, _, hp => nomatch hp
  | lo, q :: r, h, p, hp => by
    rcases List.mem_cons.mp hp with e | e'
    · rw [e]; exact ⟨h.1, h.2.1⟩
    · have := Ris.le h.2.2 p e'
      have := h.2.1
      have := h.1
      omega

/-! ### walks over a list or a tuple -/
def Sq (K : PySem.W.Frag) (H : Hp) (a : Addr) (xs : List V) : Prop := SqL K H a xs ∨ SqT K H a xs
def iSeq (K : PySem.W.Frag) (tl : TE) : TI := fun σ H R => tl σ H fun x H1 => ∃ a, x = .ref a ∧ (((∃ xs, SqL K H1 a xs) ∧ R (Itl K a) H1) ∨ ((∃ xs, SqT K H1 a xs) ∧ R (Itt K a) H1))
/-- the iterator that was just laid is no one's -/
theorem lone {X : Cx} {pins : List (Addr × Obj)} {σ : L2.St} {H : Hp} {s : Shared} (I : Inv X pins σ H s) : ∀ b ∈ [s.heap.objs.size], FpOk X pins H b := fun b hb => by
  rw [List.mem_singleton.mp hb]
  exact I.fpOk (H' := H) (Nat.le_refl _) (I.hok.fresh (Nat.le_refl _))
theorem pi_seq {X : Cx} {tg l : Expr} {tl : TE} (walked : PE X l tl) : PI X tg l (iSeq X.K tl) := by
  constructor
  intro pins s σ H R I h
  refine thn (walked.run pins s σ H _ I h) fun u s1 had => ?_
  obtain ⟨_, H1, J, rel, a, rfl, had⟩ := had
  cases rel
  have laid : ∀ o, Inv X pins σ H1 { s1 with heap := s1.heap.push o } := fun o => J.kept (t' := s1.toks) fun _ _ e => Heap.get?_push_of_some _ e
  rcases had with ⟨⟨xs, hq⟩, q⟩ | ⟨⟨xs, hq⟩, q⟩
  · obtain ⟨its, _, isL, _⟩ := J.list hq
    exact wpAny_pyIter_list isL.isList ⟨_, _, _, _, H1, rfl, laid _, turn_list a _, ⟨_, Heap.get?_push_size _ rfl, rfl, rfl⟩, lone J, q⟩
  · obtain ⟨its, _, isT, _⟩ := J.tuple hq
    exact wpAny_pyIter_tuple (items := its.toArray) isT ⟨_, _, _, _, H1, rfl, laid _, turn_tuple a _, ⟨_, Heap.get?_push_size _ rfl, rfl, rfl⟩, lone J, q⟩
/-- the walked thing stands as it stood -/
def SqTo (K : PySem.W.Frag) (H H' : Hp) (a : Addr) (xs : List V) : Prop := (SqL K H a xs → SqL K H' a xs) ∧ (SqT K H a xs → SqT K H' a xs)
theorem SqTo.refl {K : PySem.W.Frag} {H : Hp} {a : Addr} {xs : List V} : SqTo K H H a xs := ⟨fun h => h, fun h => h⟩
theorem same_t {K : PySem.W.Frag} {H H' : Hp} {a : Addr} {xs : List V} (s : Same H H') (h : SqT K H a xs) : SqT K H' a xs :=
  h.elim (fun r => .inl (r.elim (fun e => .inl (s a _ e)) fun ⟨o, e⟩ => .inr ⟨o, s a _ e⟩)) .inr
theorem SqTo.same {K : PySem.W.Frag} {H H' : Hp} {a : Addr} {xs : List V} (s : Same H H') : SqTo K H H' a xs := ⟨s.seq, same_t s⟩
theorem Sq.same {K : PySem.W.Frag} {H H' : Hp} {a : Addr} {xs : List V} (h : Sq K H a xs) (s : Same H H') : Sq K H' a xs := h.elim (fun h => .inl (s.seq h)) fun h => .inr (same_t s h)
theorem Sq.list {K : PySem.W.Frag} {H : Hp} {a : Addr} {xs : List V} (h : H a = some (.lst xs)) : Sq K H a xs := .inl (SqL.of h)
theorem Sq.tup {K : PySem.W.Frag} {H : Hp} {a : Addr} {xs : List V} (h : H a = some (.tup xs)) : Sq K H a xs := .inr (.inl (.inl h))
abbrev ForR (J : It) (g : TG) (tb : TS) (D : Ends) (σ : L2.St) (H1 : Hp) : Prop := ∃ W : Nat → Nat → L2.St → Hp → Prop, (∃ m, W 0 m σ H1) ∧ ∀ i m σ H, W i m σ H →
  (J.stop i H ∧ D.nx σ H) ∨ (J.go i H ∧ ∃ N : L2.St → Hp → Prop, (∀ σ' H', N σ' H' → ∃ m', m' < m ∧ W (i + 1) m' σ' H') ∧ ∀ x H', J.yld i H x H' → g x σ H' fun σ2 H2 => tb { D with nx := N, ct := N, bk := D.nx } σ2 H2)
theorem for_seq {K : PySem.W.Frag} {a : Addr} {xs : List V} {g : TG} {tb : TS} {D : Ends} {σ : L2.St} {H1 : Hp} (hq : Sq K H1 a xs) (Pv : Nat → L2.St → Hp → Prop) (h0 : Pv 0 σ H1)
    (hl : ∀ i σ H', i ≤ xs.length → Pv i σ H' → SqTo K H1 H' a xs)
    (turn : ∀ i x σ H, xs[i]? = some x → Pv i σ H → g x σ H fun σ2 H2 => tb { D with nx := Pv (i + 1), ct := Pv (i + 1), bk := D.nx } σ2 H2) (fin : ∀ σ H, Pv xs.length σ H → D.nx σ H) :
    ((∃ xs, SqL K H1 a xs) ∧ ForR (Itl K a) g tb D σ H1) ∨ ((∃ xs, SqT K H1 a xs) ∧ ForR (Itt K a) g tb D σ H1) := by
  rcases hq with h | h
  · exact .inl ⟨⟨xs, h⟩, for_list (xs := xs) Pv h0 (fun i σ H' hi p => (hl i σ H' hi p).1 h) turn fin⟩
  · exact .inr ⟨⟨xs, h⟩, for_tup (xs := xs) Pv h0 (fun i σ H' hi p => (hl i σ H' hi p).2 h) turn fin⟩

/-! ### pairs as data -/
def pairD (p : Int × Int) : PyData := .tuple [.int p.1, .int p.2]
theorem dp_prs {K : PySem.W.Frag} {H : Hp} : ∀ {us : List V} {ps : List (Int × Int)}, Prs H us ps → DpAll K H us (ps.map pairD)
  | [], [], _ => .nil
  | [], _ :: _, h => nomatch h.1
  | _ :: _, [], h => nomatch h.1
  | u :: us, p :: ps, h => by
    obtain ⟨a, e1, e2⟩ := h.2 0 p rfl
    have eu : u = .ref a := Option.some.inj e1
    subst eu
    refine .cons (.tup (.inl (.inl e2)) (.cons (.int _) (.cons (.int _) .nil))) (dp_prs ⟨Nat.succ.inj h.1, fun i q e => ?_⟩)
    obtain ⟨b, f1, f2⟩ := h.2 (i + 1) q e
    exact ⟨b, f1, f2⟩
theorem lay_prs : ∀ ps : List (Int × Int), PyData.canLayAll0 (ps.map pairD) = true
  | [] => by simp only [List.map_nil, PyData.canLayAll0]
  | p :: r => by
    rw [List.map_cons, PyData.canLayAll0, lay_prs r]
    simp [pairD, PyData.canLay0, PyData.canLayAll0]
theorem depth_prs : ∀ ps : List (Int × Int), PyData.depthAll (ps.map pairD) ≤ 1
  | [] => by simp only [List.map_nil, PyData.depthAll]; omega
  | p :: r => by
    rw [List.map_cons, PyData.depthAll]  -- a pair, then the rest
    have := depth_prs r
    simp [pairD, PyData.depth, PyData.depthAll]
    omega
theorem shaped_prs (ps : List (Int × Int)) : SeqAt.shaped (PyData.list (ps.map pairD)) = true := by
  unfold SeqAt.shaped
  rw [PyData.canLay0, lay_prs, PyData.depth, Bool.true_and]
  exact decide_eq_true (by have := depth_prs ps; omega)
theorem eqv_prs (ps : List (Int × Int)) : PyData.eqv (PyData.list (ps.map pairD)) (PyData.list (ps.map pairD)) = true := SeqAt.eqv_refl _ (by rw [PyData.canLay0]; exact lay_prs ps)
theorem tabG_tabbed {Pt Pu : Addr} {H H2 : Hp} (g : GxR.TabG H Pu) (x : GxR.Tabbed Pt H H2) : GxR.TabG H2 Pu := by
  by_cases e : Pu = Pt
  · rw [e]; exact x.1
  · obtain ⟨ps, h, r⟩ := g
    exact ⟨ps, by rw [x.2 _ e]; exact h, r⟩

theorem Kp.free {H H' : Hp} {d c l : Addr} {t' : Int} (k : Kp d c H H') (S' : StAt H' d c t') (n : H' l = none) : H l = none := by
  cases e : H l with
  | none => rfl
  | some o =>
    obtain ⟨cs1, ec1, _⟩ := S'.cells
    have z := k l o (ne_of_none S'.dict n).symm (ne_of_none ec1 n).symm e
    rw [n] at z
    cases z
theorem StAt.off {H : Hp} {d c l : Addr} {t : Int} (S : StAt H d c t) (n : H l = none) : l ≠ d ∧ l ≠ c := by
  obtain ⟨cs1, ec1, _⟩ := S.cells
  exact ⟨(ne_of_none S.dict n).symm, (ne_of_none ec1 n).symm⟩
/-- no whole number among these: so it's not the draws' cells -/
def NoInt (xs : List V) : Prop := ∀ x ∈ xs, ∀ i, x ≠ .int i
theorem Kp.lst {H H' : Hp} {d c a : Addr} {t : Int} {xs : List V} (k : Kp d c H H') (S : StAt H d c t) (e : H a = some (.lst xs)) (h : NoInt xs) : H' a = some (.lst xs) := by
  obtain ⟨cs, ec, hne, _⟩ := S.cells
  refine k a _ (fun z => ?_) (fun z => ?_) e
  · rw [z, S.dict] at e
    cases e
  · rw [z, ec] at e
    have e' : cs.map V.int = xs := HO.lst.inj (Option.some.inj e)
    cases cs with
    | nil => exact hne rfl
    | cons n r => exact h (.int n) (e' ▸ List.mem_cons_self ..) n rfl
theorem Kp.tup {H H' : Hp} {d c a : Addr} {t : Int} {xs : List V} (k : Kp d c H H') (S : StAt H d c t) (e : H a = some (.tup xs)) : H' a = some (.tup xs) := k.at S e (fun _ z => nomatch z) (fun _ z => nomatch z)
theorem noInt_strs (xs : List Str) : NoInt (xs.map V.str) := fun x hx i e => by
  obtain ⟨y, _, rfl⟩ := List.mem_map.mp hx
  cases e
theorem noInt_prs {H : Hp} {us : List V} {ps : List (Int × Int)} (h : Prs H us ps) : NoInt us := fun x hx i e => by
  obtain ⟨j, hj, e1⟩ := List.getElem_of_mem hx
  obtain ⟨p, a, _, rfl, _⟩ := prs_at h (by rw [List.getElem?_eq_getElem hj, e1])
  cases e

/-- a text of one sign -/
def sgS (c : Nat) : Str := ⟨#[c]⟩
def sgn (c : Nat) : V := .str (sgS c)
def spNames : Sp := fun vs H Q _ => ∃ (d c : Addr) (t m : Int), vs = [.ref d, .int m] ∧ StAt H d c t ∧ t + 100 < 2 ^ 60 ∧ 0 ≤ m ∧ m ≤ 20 ∧
  ∀ (l : Addr) (xs : List Str) (t' : Int) H', H l = none → H' l = some (.lst (xs.map V.str)) → (∀ x ∈ xs, PyData.strOk x = true) → (xs.length : Int) = m → xs.Nodup → t ≤ t' → t' ≤ t + 20 → StAt H' d c t' → Kp d c H H' → Q (.ref l) H'
theorem join_small {cs : List Nat} (h : cs.length ≤ 10) : ((cs.map sgS).map (·.length)).sum + (cs.map sgS).length * ("" : Str).length ≤ 16777216 := by
  have e : ((cs.map sgS).map (·.length)).sum = cs.length := by
    induction cs with
    | nil => rfl
    | cons c r ih =>
      rw [List.map_cons, List.map_cons, List.sum_cons, ih (by rw [List.length_cons] at h; omega), List.length_cons]
      show 1 + r.length = r.length + 1
      omega
  rw [e, show ("" : Str).length = 0 from rfl, Nat.mul_zero]
  omega
theorem joinL_ones : ∀ cs : List Nat, TL.joinL [] (cs.map fun c => [c]) = cs
  | [] => rfl
  | [_] => rfl
  | c :: c2 :: r => by
    have ih := joinL_ones (c2 :: r)
    show [c] ++ ([] ++ TL.joinL [] ((c2 :: r).map fun c => [c])) = _
    rw [ih]
    rfl
theorem join_ok {cs : List Nat} (h : ∀ c ∈ cs, c < 1114112) : PyData.strOk (Txt.join "" (cs.map sgS)) = true := by
  have e : Txt.join "" (cs.map sgS) = SX.S cs := by
    have z := SX.join_S [] (cs.map fun c => [c])
    rw [joinL_ones, List.map_map] at z
    exact z
  rw [e]
  show (Array.all _ _) = true
  rw [Array.all_eq_true']
  intro c hc
  exact decide_eq_true (h c (by simpa using hc))
/-- words that are unlike at one sign -/
def Spelt (abc : Str) (N fi sv : Int) (js : Nat) (xs : List Str) : Prop := ∀ (k : Nat) x, xs[k]? = some x → ∃ (cs : List Nat) (ch : Nat), x = SX.S cs ∧ cs[js]? = some ch ∧ atI abc.cps.toList ((fi + sv * (k : Int)) % N) = some ch
theorem join_eq (cs : List Nat) : Txt.join "" (cs.map sgS) = SX.S cs := by
  have z := SX.join_S [] (cs.map fun c => [c])
  rw [joinL_ones, List.map_map] at z
  exact z
theorem Spelt.snoc {abc : Str} {N fi sv : Int} {js i : Nat} {xs : List Str} {cs : List Nat} {ch : Nat} (h : Spelt abc N fi sv js xs) (hl : xs.length = i) (e1 : cs[js]? = some ch) (e2 : atI abc.cps.toList ((fi + sv * (i : Int)) % N) = some ch) : Spelt abc N fi sv js (xs ++ [Txt.join "" (cs.map sgS)]) := fun k x e => by
  by_cases hk : k < xs.length
  · rw [List.getElem?_append_left hk] at e
    exact h k x e
  · rw [List.getElem?_append_right (by omega)] at e
    have hz : k - xs.length = 0 := by
      cases hq : k - xs.length with
      | zero => rfl
      | succ n => rw [hq] at e; cases e
    rw [hz] at e
    cases e
    have hki : k = i := by omega
    subst hki
    exact ⟨cs, ch, join_eq cs, e1, e2⟩
theorem Spelt.nodup {abc : Str} {N fi sv : Int} {js : Nat} {xs : List Str} (h : Spelt abc N fi sv js xs) (hN : 0 < N) (hl : (abc.cps.toList.length : Int) = N) (hn : abc.cps.toList.Nodup) (far : ∀ k k' : Nat, k < xs.length → k' < xs.length → (fi + sv * (k : Int)) % N = (fi + sv * (k' : Int)) % N → k = k') : xs.Nodup := by
  refine List.pairwise_iff_getElem.mpr fun i j hi hj hij ex => ?_
  obtain ⟨cs1, c1, e1, f1, g1⟩ := h i xs[i] (List.getElem?_eq_getElem hi)
  obtain ⟨cs2, c2, e2, f2, g2⟩ := h j xs[j] (List.getElem?_eq_getElem hj)
  rw [e1, e2] at ex
  have ec : cs1 = cs2 := SX.S_inj ex
  rw [ec, f2] at f1
  have ecc : c2 = c1 := Option.some.inj f1
  rw [← ecc] at g1
  obtain ⟨a, ha⟩ := Int.eq_ofNat_of_zero_le (Int.emod_nonneg (fi + sv * (i : Int)) (show N ≠ 0 by omega))
  obtain ⟨b, hb⟩ := Int.eq_ofNat_of_zero_le (Int.emod_nonneg (fi + sv * (j : Int)) (show N ≠ 0 by omega))
  have la := Int.emod_lt_of_pos (fi + sv * (i : Int)) hN
  have lb := Int.emod_lt_of_pos (fi + sv * (j : Int)) hN
  rw [ha] at g1 la
  rw [hb] at g2 lb
  have a1 : a < abc.cps.toList.length := by omega
  have b1 : b < abc.cps.toList.length := by omega
  have g1' : abc.cps.toList[a]? = some c2 := by
    have z := atI_nat (List.getElem?_eq_getElem a1)
    rw [z] at g1
    rw [List.getElem?_eq_getElem a1]
    exact g1
  have g2' : abc.cps.toList[b]? = some c2 := by
    have z := atI_nat (List.getElem?_eq_getElem b1)
    rw [z] at g2
    rw [List.getElem?_eq_getElem b1]
    exact g2
  have eab : a = b := (List.getElem?_inj a1 hn).mp (g1'.trans g2'.symm)
  have := far i j (by omega) hj (by rw [ha, hb, eab])
  omega
/-! ### _law_names -/

theorem snoc_cases {α : Type} (l : List α) : l = [] ∨ ∃ l' x, l = l' ++ [x] := by
  rcases List.eq_nil_or_concat l with h | ⟨l', x, h⟩
  · exact .inl h
  · exact .inr ⟨l', x, by rw [h]; simp⟩
theorem _root_.GP.Prs.last {H : Hp} {us : List V} {ps : List (Int × Int)} {p : Int × Int} (h : Prs H us (ps ++ [p])) : ∃ us' T, us = us' ++ [.ref T] ∧ H T = some (.tup [.int p.1, .int p.2]) ∧ Prs H us' ps := by
  have hl := h.1
  rw [List.length_append] at hl
  rcases snoc_cases us with e | ⟨us', x, e⟩
  · rw [e] at hl
    simp at hl
  · subst e
    rw [List.length_append] at hl
    have hl' : us'.length = ps.length := Nat.add_right_cancel hl
    obtain ⟨T, e1, e2⟩ := h.2 ps.length p (by rw [List.getElem?_append_right (Nat.le_refl _), Nat.sub_self]; rfl)
    rw [List.getElem?_append_right (by omega), hl', Nat.sub_self] at e1
    refine ⟨us', T, by rw [Option.some.inj e1], e2, hl', fun i q eq => ?_⟩
    have hi : i < ps.length := (List.getElem?_eq_some_iff.mp eq).1
    obtain ⟨b, f1, f2⟩ := h.2 i q (by rw [List.getElem?_append_left hi]; exact eq)
    rw [List.getElem?_append_left (by omega)] at f1
    exact ⟨b, f1, f2⟩
theorem eqv_pr_nil (ps : List (Int × Int)) : PyData.eqv (PyData.list (ps.map pairD)) (PyData.list []) = ps.isEmpty := by
  cases ps with
  | nil => simp [PyData.eqv, PyData.eqvAll]
  | cons p r => simp [PyData.eqv, PyData.eqvAll]
def rIxS (K : PySem.W.Frag) : R2 := fun x y H Q => ∃ p xs i v, x = .ref p ∧ y = .int i ∧ Sq K H p xs ∧ atI xs i = some v ∧ Q v H
theorem ix_seq {X : Cx} : IxR X (rIxS X.K) := by
  intro value slice pins s σ H x y v u Q I rx ry h hs
  obtain ⟨p, xs, i, z, e1, e2, hq, he, q⟩ := h
  rcases hq with hq | hq
  · exact ix_list value slice pins s σ H x y v u Q I rx ry ⟨p, xs, i, z, e1, e2, hq, he, q⟩ hs
  · exact ix_tup value slice pins s σ H x y v u Q I rx ry ⟨p, xs, i, z, e1, e2, hq, he, q⟩ hs

/-! ### the table of the def that holds the generator expression -/
theorem tab_at {Pt : Addr} {H H2 : Hp} {b : Addr} {o : HO} (g : GxR.TabG H Pt) (t : GxR.Tabbed Pt H H2) (e : H b = some o) (h : ∀ q, o ≠ .tbl q) : H2 b = some o := by
  obtain ⟨ps, hP, _⟩ := g
  rw [t.2 b (ne_of e hP (h ps))]
  exact e
theorem StAt.tab {Pt : Addr} {H H2 : Hp} {d c : Addr} {t : Int} (S : StAt H d c t) (g : GxR.TabG H Pt) (x : GxR.Tabbed Pt H H2) : StAt H2 d c t :=
  ⟨tab_at g x S.dict (fun _ z => nomatch z), let ⟨cs, e, r⟩ := S.cells; ⟨cs, tab_at g x e (fun _ z => nomatch z), r⟩, S.pos⟩
theorem _root_.GP.Prs.tab {Pt : Addr} {H H2 : Hp} {vs : List V} {ps : List (Int × Int)} (h : Prs H vs ps) (g : GxR.TabG H Pt) (x : GxR.Tabbed Pt H H2) : Prs H2 vs ps :=
  ⟨h.1, fun i p e => let ⟨a, e1, e2⟩ := h.2 i p e; ⟨a, e1, tab_at g x e2 (fun _ z => nomatch z)⟩⟩
theorem tabG_same {Pt : Addr} {H H' : Hp} (g : GxR.TabG H Pt) (s : Same H H') : GxR.TabG H' Pt := let ⟨ps, e, r⟩ := g; ⟨ps, s _ _ e, r⟩
theorem tabG_kp {Pt : Addr} {H H' : Hp} {d c : Addr} {t : Int} (g : GxR.TabG H Pt) (S : StAt H d c t) (k : Kp d c H H') : GxR.TabG H' Pt := let ⟨ps, e, r⟩ := g; ⟨ps, k.at S e (fun _ z => nomatch z) (fun _ z => nomatch z), r⟩
theorem tabG_upd {Pt : Addr} {H : Hp} {l : Addr} {o u : HO} (g : GxR.TabG H Pt) (e : H l = some o) (h : ∀ q, o ≠ .tbl q) : GxR.TabG (upd H l u) Pt := let ⟨ps, eP, r⟩ := g; ⟨ps, by rw [upd_ne (ne_of e eP (h ps)).symm]; exact eP, r⟩
theorem tabbed_free {Pt : Addr} {H H2 : Hp} {p : Addr} (g : GxR.TabG H Pt) (x : GxR.Tabbed Pt H H2) (h : H2 p = none) : H p = none := by
  obtain ⟨ps, e, _⟩ := x.1
  rw [← x.2 p (fun z => by rw [z, e] at h; cases h)]
  exact h

/-- a walk over what stood before a list was begun -/
theorem for_seqS {K : PySem.W.Frag} {a : Addr} {xs : List V} {g : TG} {tb : TS} {D : Ends} {σ : L2.St} {H0 H1 : Hp} (hq : Sq K H0 a xs) (s1 : Same H0 H1) (Pv : Nat → L2.St → Hp → Prop) (h0 : Pv 0 σ H1)
    (hl : ∀ i σ H', Pv i σ H' → Same H0 H')
    (turn : ∀ i x σ H, xs[i]? = some x → Pv i σ H → g x σ H fun σ2 H2 => tb { D with nx := Pv (i + 1), ct := Pv (i + 1), bk := D.nx } σ2 H2) (fin : ∀ σ H, Pv xs.length σ H → D.nx σ H) :
    ((∃ xs, SqL K H1 a xs) ∧ ForR (Itl K a) g tb D σ H1) ∨ ((∃ xs, SqT K H1 a xs) ∧ ForR (Itt K a) g tb D σ H1) := by
  rcases hq with h | h
  · exact .inl ⟨⟨xs, s1.seq h⟩, for_list (xs := xs) Pv h0 (fun i σ H' _ p => (hl i σ H' p).seq h) turn fin⟩
  · exact .inr ⟨⟨xs, same_t s1 h⟩, for_tup (xs := xs) Pv h0 (fun i σ H' _ p => same_t (hl i σ H' p) h) turn fin⟩

abbrev LcR (J : It) (g : TG) (tt : TT) (te : TE) (vs : List Nat) (σ : L2.St) (D : Addr) (Qd : Addr → Hp → Prop) (H1 : Hp) : Prop := ∃ W : Nat → Nat → Hp → Prop, (∃ m, W 0 m (upd H1 D (.lst []))) ∧ ∀ i m H, W i m H →
  (J.stop i H ∧ Qd D H) ∨ (J.go i H ∧ ∃ Nx : Hp → Prop, (∀ H', Nx H' → ∃ m', m' < m ∧ W (i + 1) m' H') ∧ ∀ x H', J.yld i H x H' → g x (wipe σ vs) H' fun σ2 H2 => wipe σ2 vs = wipe σ vs ∧ tt σ2 H2 fun b H3 => if b = true then
    te σ2 H3 fun y H4 => ∃ acc, H4 D = some (.lst acc) ∧ acc.length < sizeLine ∧ Nx (upd H4 D (.lst (acc ++ [y]))) else Nx H3)
theorem lc_seq {K : PySem.W.Frag} {a : Addr} {xs : List V} {g : TG} {tt : TT} {te : TE} {vs : List Nat} {σ : L2.St} {H1 : Hp} {Qd : Addr → Hp → Prop} (hq : Sq K H1 a xs) (Pv : Addr → Nat → Hp → Prop) (h0 : ∀ D, H1 D = none → Pv D 0 (upd H1 D (.lst [])))
    (still : ∀ D i H', H1 D = none → Pv D i H' → SqTo K H1 H' a xs)
    (turn : ∀ D i x H', H1 D = none → xs[i]? = some x → Pv D i H' → g x (wipe σ vs) H' fun σ2 H2 => wipe σ2 vs = wipe σ vs ∧ tt σ2 H2 fun b H3 =>
      if b = true then te σ2 H3 fun y H4 => ∃ acc, H4 D = some (.lst acc) ∧ acc.length < sizeLine ∧ Pv D (i + 1) (upd H4 D (.lst (acc ++ [y]))) else Pv D (i + 1) H3) (fin : ∀ D H', H1 D = none → Pv D xs.length H' → Qd D H') :
    ((∃ xs, SqL K H1 a xs) ∧ ∀ D, H1 D = none → LcR (Itl K a) g tt te vs σ D Qd H1) ∨ ((∃ xs, SqT K H1 a xs) ∧ ∀ D, H1 D = none → LcR (Itt K a) g tt te vs σ D Qd H1) := by
  rcases hq with h | h
  · exact .inl ⟨⟨xs, h⟩, fun D nD => lc_list (xs := xs) (Pv D) (h0 D nD) (fun i H' _ p => (still D i H' nD p).1 h) (fun i x H' e p => turn D i x H' nD e p) (fun H' p => fin D H' nD p)⟩
  · exact .inr ⟨⟨xs, h⟩, fun D nD => lc_tup (xs := xs) (Pv D) (h0 D nD) (fun i H' _ p => (still D i H' nD p).2 h) (fun i x H' e p => turn D i x H' nD e p) (fun H' p => fin D H' nD p)⟩

/-! ### sets by stretches: the mathematics -/
theorem inB_iff {n a b : Int} : inB n a b = true ↔ a ≤ n ∧ n ≤ b := by
  unfold inB
  rw [Bool.and_eq_true, decide_eq_true_eq (p := a ≤ n), decide_eq_true_eq]
theorem anyP_iff {n : Int} {ps : List (Int × Int)} : anyP (inB n) ps = true ↔ ∃ p ∈ ps, p.1 ≤ n ∧ n ≤ p.2 := by
  unfold anyP
  rw [List.any_eq_true]
  constructor
  · rintro ⟨p, hp, e⟩
    exact ⟨p, hp, inB_iff.mp e⟩
  · rintro ⟨p, hp, e⟩
    exact ⟨p, hp, inB_iff.mpr e⟩
/-- the same numbers -/
def Alike (ps qs : List (Int × Int)) : Prop := ∀ n : Int, (∃ p ∈ ps, p.1 ≤ n ∧ n ≤ p.2) ↔ ∃ p ∈ qs, p.1 ≤ n ∧ n ≤ p.2
theorem Alike.any {ps qs : List (Int × Int)} (h : Alike ps qs) (n : Int) : anyP (inB n) ps = anyP (inB n) qs := by
  rw [Bool.eq_iff_iff, anyP_iff, anyP_iff]
  exact h n
theorem Alike.symm {ps qs : List (Int × Int)} (h : Alike ps qs) : Alike qs ps := fun n => (h n).symm
theorem Alike.trans {ps qs rs : List (Int × Int)} (h : Alike ps qs) (h' : Alike qs rs) : Alike ps rs := fun n => (h n).trans (h' n)
theorem Alike.of_mem {ps qs : List (Int × Int)} (h : ∀ p, p ∈ ps ↔ p ∈ qs) : Alike ps qs := fun n => ⟨fun ⟨p, hp, e⟩ => ⟨p, (h p).mp hp, e⟩, fun ⟨p, hp, e⟩ => ⟨p, (h p).mpr hp, e⟩⟩
/-- of each set of numbers there is just one list -/
theorem ris_one : ∀ {rs rs' : List (Int × Int)} {lo lo' : Int}, Ris lo rs → Ris lo' rs' → Alike rs rs' → rs = rs'
  | [], [], _, _, _, _, _ => by rfl
  | [], q :: r, _, _, _, h', e => by
    obtain ⟨p, hp, _⟩ := (e q.1).mpr ⟨q, List.mem_cons_self .., Int.le_refl _, h'.2.1⟩
    exact nomatch hp
  | q :: r, [], _, _, h, _, e => by
    obtain ⟨p, hp, _⟩ := (e q.1).mp ⟨q, List.mem_cons_self .., Int.le_refl _, h.2.1⟩
    exact nomatch hp
  | (a, b) :: r, (a', b') :: r', lo, lo', h, h', e => by
    have hb : a ≤ b := h.2.1
    have hb' : a' ≤ b' := h'.2.1
    have tl : ∀ p ∈ r, b + 2 ≤ p.1 ∧ p.1 ≤ p.2 := Ris.le h.2.2
    have tl' : ∀ p ∈ r', b' + 2 ≤ p.1 ∧ p.1 ≤ p.2 := Ris.le h'.2.2
    have m1 : a' ≤ a := by
      obtain ⟨p, hp, e1, e2⟩ := (e a).mp ⟨(a, b), List.mem_cons_self .., Int.le_refl _, hb⟩
      rcases List.mem_cons.mp hp with z | z
      · rw [z] at e1; exact e1
      · have := tl' p z; omega
    have m2 : a ≤ a' := by
      obtain ⟨p, hp, e1, e2⟩ := (e a').mpr ⟨(a', b'), List.mem_cons_self .., Int.le_refl _, hb'⟩
      rcases List.mem_cons.mp hp with z | z
      · rw [z] at e1; exact e1
      · have := tl p z; omega
    have ea : a = a' := by omega
    have n1 : ¬ b < b' := fun lt => by
      obtain ⟨p, hp, e1, e2⟩ := (e (b + 1)).mpr ⟨(a', b'), List.mem_cons_self .., by show a' ≤ b + 1; omega, by show b + 1 ≤ b'; omega⟩
      rcases List.mem_cons.mp hp with z | z
      · rw [z] at e2; have : b + 1 ≤ b := e2; omega
      · have := tl p z; omega
    have n2 : ¬ b' < b := fun lt => by
      obtain ⟨p, hp, e1, e2⟩ := (e (b' + 1)).mp ⟨(a, b), List.mem_cons_self .., by show a ≤ b' + 1; omega, by show b' + 1 ≤ b; omega⟩
      rcases List.mem_cons.mp hp with z | z
      · rw [z] at e2; have : b' + 1 ≤ b' := e2; omega
      · have := tl' p z; omega
    have eb : b = b' := by omega
    subst ea eb
    have er : Alike r r' := fun n => by
      constructor
      · rintro ⟨p, hp, e1, e2⟩
        obtain ⟨p', hp', f1, f2⟩ := (e n).mp ⟨p, List.mem_cons_of_mem _ hp, e1, e2⟩
        rcases List.mem_cons.mp hp' with z | z
        · rw [z] at f2
          have : n ≤ b := f2
          have := tl p hp
          omega
        · exact ⟨p', z, f1, f2⟩
      · rintro ⟨p, hp, e1, e2⟩
        obtain ⟨p', hp', f1, f2⟩ := (e n).mpr ⟨p, List.mem_cons_of_mem _ hp, e1, e2⟩
        rcases List.mem_cons.mp hp' with z | z
        · rw [z] at f2
          have : n ≤ b := f2
          have := tl' p hp
          omega
        · exact ⟨p', z, f1, f2⟩
    rw [ris_one h.2.2 h'.2.2 er]
theorem Ris.front : ∀ {lo : Int} {rs : List (Int × Int)} {q : Int × Int}, Ris lo (rs ++ [q]) → Ris lo rs ∧ (∀ r ∈ rs, r.2 + 2 ≤ q.1) ∧ lo ≤ q.1 ∧ q.1 ≤ q.2
  | lo, [], q, h => ⟨True.intro, (fun _ z => nomatch z), h.1, h.2.1⟩
  | lo, r :: rs, q, h => by
    obtain ⟨h1, h2, h3, h4⟩ := Ris.front h.2.2
    refine ⟨⟨h.1, h.2.1, h1⟩, fun x hx => ?_, by have := h.1; have := h.2.1; omega, h4⟩
    rcases List.mem_cons.mp hx with z | z
    · rw [z]; exact h3
    · exact h2 x z
/-- what is told of pairs: a set of just their numbers -/
structure SetLike (ps rs : List (Int × Int)) : Prop where
  ris : ∃ lo, Ris lo rs
  same : Alike rs ps
  len : rs.length ≤ ps.length
/-- between two turns: the pairs so far, rising by their firsts, and what is merged of them -/
structure Mrg (pre rs : List (Int × Int)) : Prop extends SetLike pre rs where
  firsts : ∀ r ∈ rs, ∃ p ∈ pre, p.1 = r.1
theorem alike_snoc {pre : List (Int × Int)} {rs rs' : List (Int × Int)} {p : Int × Int} (h : Alike rs pre) (e : ∀ n, (∃ q ∈ rs', q.1 ≤ n ∧ n ≤ q.2) ↔ (∃ q ∈ rs, q.1 ≤ n ∧ n ≤ q.2) ∨ (p.1 ≤ n ∧ n ≤ p.2)) : Alike rs' (pre ++ [p]) := fun n => by
  rw [e n, h n]
  constructor
  · rintro (⟨q, hq, z⟩ | z)
    · exact ⟨q, List.mem_append_left _ hq, z⟩
    · exact ⟨p, List.mem_append_right _ (List.mem_singleton.mpr rfl), z⟩
  · rintro ⟨q, hq, z⟩
    rcases List.mem_append.mp hq with y | y
    · exact .inl ⟨q, y, z⟩
    · rw [List.mem_singleton.mp y] at z
      exact .inr z
theorem Mrg.join {pre rs : List (Int × Int)} {a b : Int} {p : Int × Int} (m : Mrg pre (rs ++ [(a, b)])) (hp : p.1 ≤ p.2) (ord : ∀ q ∈ pre, q.1 ≤ p.1) (near : p.1 ≤ b + 1) : Mrg (pre ++ [p]) (rs ++ [(a, if p.2 > b then p.2 else b)]) := by
  obtain ⟨lo, hr⟩ := m.ris
  obtain ⟨h1, h2, h3, h4⟩ := Ris.front hr
  obtain ⟨q, hq, eq⟩ := m.firsts (a, b) (List.mem_append_right _ (List.mem_singleton.mpr rfl))
  have hap : a ≤ p.1 := by have := ord q hq; have : q.1 = a := eq; omega
  have hab : a ≤ b := h4
  have big : a ≤ (if p.2 > b then p.2 else b) := by split <;> omega
  refine ⟨⟨⟨lo, h1.snoc h3 h2 big⟩, alike_snoc m.same fun n => ?_, ?_⟩, fun r hr => ?_⟩
  · constructor
    · rintro ⟨q, hq, z⟩
      rcases List.mem_append.mp hq with y | y
      · exact .inl ⟨q, List.mem_append_left _ y, z⟩
      · rw [List.mem_singleton.mp y] at z
        have z1 : a ≤ n := z.1
        have z2 : n ≤ (if p.2 > b then p.2 else b) := z.2
        by_cases c : n ≤ b
        · exact .inl ⟨(a, b), List.mem_append_right _ (List.mem_singleton.mpr rfl), z1, c⟩
        · refine .inr ⟨by omega, ?_⟩
          split at z2 <;> omega
    · rintro (⟨q, hq, z⟩ | z)
      · rcases List.mem_append.mp hq with y | y
        · exact ⟨q, List.mem_append_left _ y, z⟩
        · rw [List.mem_singleton.mp y] at z
          refine ⟨_, List.mem_append_right _ (List.mem_singleton.mpr rfl), z.1, ?_⟩
          have z2 : n ≤ b := z.2
          show n ≤ (if p.2 > b then p.2 else b)
          split <;> omega
      · refine ⟨_, List.mem_append_right _ (List.mem_singleton.mpr rfl), by show a ≤ n; omega, ?_⟩
        show n ≤ (if p.2 > b then p.2 else b)
        split <;> omega
  · have := m.len
    rw [List.length_append, List.length_append] at *
    show rs.length + 1 ≤ pre.length + 1
    have : rs.length + 1 ≤ pre.length := this
    omega
  · rcases List.mem_append.mp hr with y | y
    · obtain ⟨q, hq, e⟩ := m.firsts r (List.mem_append_left _ y)
      exact ⟨q, List.mem_append_left _ hq, e⟩
    · rw [List.mem_singleton.mp y]
      exact ⟨q, List.mem_append_left _ hq, eq⟩
theorem Mrg.new {pre rs : List (Int × Int)} {p : Int × Int} (m : Mrg pre rs) (hp : p.1 ≤ p.2) (ord : ∀ q ∈ pre, q.1 ≤ p.1) (far : ∀ r ∈ rs, r.2 + 2 ≤ p.1) : Mrg (pre ++ [p]) (rs ++ [p]) := by
  obtain ⟨lo, hr⟩ := m.ris
  refine ⟨⟨?_, alike_snoc m.same fun n => ?_, by have := m.len; rw [List.length_append, List.length_append]; show rs.length + 1 ≤ pre.length + 1; omega⟩, fun r hr => ?_⟩
  · cases rs with
    | nil => exact ⟨p.1, Int.le_refl _, hp, True.intro⟩
    | cons q r =>
      refine ⟨lo, hr.snoc ?_ far hp⟩
      have := hr.le q (List.mem_cons_self ..)
      have := far q (List.mem_cons_self ..)
      omega
  · constructor
    · rintro ⟨q, hq, z⟩
      rcases List.mem_append.mp hq with y | y
      · exact .inl ⟨q, y, z⟩
      · rw [List.mem_singleton.mp y] at z; exact .inr z
    · rintro (⟨q, hq, z⟩ | z)
      · exact ⟨q, List.mem_append_left _ hq, z⟩
      · exact ⟨p, List.mem_append_right _ (List.mem_singleton.mpr rfl), z⟩
  · rcases List.mem_append.mp hr with y | y
    · obtain ⟨q, hq, e⟩ := m.firsts r y
      exact ⟨q, List.mem_append_left _ hq, e⟩
    · rw [List.mem_singleton.mp y]
      exact ⟨p, List.mem_append_right _ (List.mem_singleton.mpr rfl), rfl⟩
theorem Mrg.nil : Mrg [] [] := ⟨⟨⟨0, True.intro⟩, fun _ => Iff.rfl, Nat.le_refl _⟩, fun _ z => nomatch z⟩

/-! ### sets put together: the mathematics -/
def InS (ps : List (Int × Int)) (n : Int) : Prop := ∃ p ∈ ps, p.1 ≤ n ∧ n ≤ p.2
theorem inS_nil {n : Int} : ¬ InS [] n := fun ⟨_, h, _⟩ => nomatch h
theorem inS_cons {p : Int × Int} {r : List (Int × Int)} {n : Int} : InS (p :: r) n ↔ (p.1 ≤ n ∧ n ≤ p.2) ∨ InS r n := by
  constructor
  · rintro ⟨q, hq, e⟩
    rcases List.mem_cons.mp hq with z | z
    · rw [z] at e; exact .inl e
    · exact .inr ⟨q, z, e⟩
  · rintro (e | ⟨q, hq, e⟩)
    · exact ⟨p, List.mem_cons_self .., e⟩
    · exact ⟨q, List.mem_cons_of_mem _ hq, e⟩
theorem inS_append {ps qs : List (Int × Int)} {n : Int} : InS (ps ++ qs) n ↔ InS ps n ∨ InS qs n := by
  constructor
  · rintro ⟨q, hq, e⟩
    rcases List.mem_append.mp hq with z | z
    · exact .inl ⟨q, z, e⟩
    · exact .inr ⟨q, z, e⟩
  · rintro (⟨q, hq, e⟩ | ⟨q, hq, e⟩)
    · exact ⟨q, List.mem_append_left _ hq, e⟩
    · exact ⟨q, List.mem_append_right _ hq, e⟩
theorem Ris.low {lo n : Int} {ps : List (Int × Int)} (h : Ris lo ps) (e : InS ps n) : lo ≤ n := by
  obtain ⟨p, hp, e1, e2⟩ := e
  have := h.le p hp
  omega
theorem Ris.mono : ∀ {lo lo' : Int} {ps : List (Int × Int)}, Ris lo ps → lo' ≤ lo → Ris lo' ps
  | _, _, [], _, _ => True.intro
  | _, _, _ :: _, h, e => ⟨Int.le_trans e h.1, h.2⟩
def mxI (i j : Int) : Int := if j > i then j else i
def mnI (i j : Int) : Int := if j < i then j else i
theorem mxI_le {i j n : Int} : mxI i j ≤ n ↔ i ≤ n ∧ j ≤ n := by unfold mxI; split <;> omega
theorem le_mxI {i j n : Int} : n ≤ mxI i j ↔ n ≤ i ∨ n ≤ j := by unfold mxI; split <;> omega
theorem le_mnI {i j n : Int} : n ≤ mnI i j ↔ n ≤ i ∧ n ≤ j := by unfold mnI; split <;> omega
theorem mnI_le {i j n : Int} : mnI i j ≤ n ↔ i ≤ n ∨ j ≤ n := by unfold mnI; split <;> omega
/-- going through both at once -/
def bothF : List (Int × Int) → List (Int × Int) → List (Int × Int)
  | [], _ => []
  | _ :: _, [] => []
  | p :: r, q :: s => (if mxI p.1 q.1 ≤ mnI p.2 q.2 then [(mxI p.1 q.1, mnI p.2 q.2)] else []) ++ (if p.2 < q.2 then bothF r (q :: s) else bothF (p :: r) s)
termination_by ps qs => ps.length + qs.length
theorem bothF_nil (ps : List (Int × Int)) : bothF ps [] = [] := by cases ps <;> rw [bothF]
theorem bothF_ris : ∀ {ps qs : List (Int × Int)} {lo lo' k : Int}, Ris lo ps → Ris lo' qs → (k ≤ lo ∨ k ≤ lo') → Ris k (bothF ps qs)
  | [], _, _, _, _, _, _, _ => by rw [bothF]; exact True.intro
  | _ :: _, [], _, _, _, _, _, _ => by rw [bothF]; exact True.intro
  | p :: r, q :: s, lo, lo', k, h, h', hk => by
    rw [bothF]
    have h1 := h.1
    have h2 := h.2.1
    have h1' := h'.1
    have h2' := h'.2.1
    by_cases c : mxI p.1 q.1 ≤ mnI p.2 q.2
    · rw [if_pos c]
      refine ⟨?_, c, ?_⟩
      · show k ≤ mxI p.1 q.1
        rw [le_mxI]
        omega
      · by_cases d : p.2 < q.2
        · rw [if_pos d]
          refine bothF_ris h.2.2 h' (.inl ?_)
          show mnI p.2 q.2 + 2 ≤ p.2 + 2
          have : mnI p.2 q.2 ≤ p.2 := mnI_le.mpr (.inl (Int.le_refl _))
          omega
        · rw [if_neg d]
          refine bothF_ris h h'.2.2 (.inr ?_)
          show mnI p.2 q.2 + 2 ≤ q.2 + 2
          have : mnI p.2 q.2 ≤ q.2 := mnI_le.mpr (.inr (Int.le_refl _))
          omega
    · rw [if_neg c, List.nil_append]
      by_cases d : p.2 < q.2
      · rw [if_pos d]
        refine bothF_ris h.2.2 h' ?_
        omega
      · rw [if_neg d]
        refine bothF_ris h h'.2.2 ?_
        omega
termination_by ps qs => ps.length + qs.length
theorem bothF_in {n : Int} : ∀ {ps qs : List (Int × Int)} {lo lo' : Int}, Ris lo ps → Ris lo' qs → (InS (bothF ps qs) n ↔ InS ps n ∧ InS qs n)
  | [], _, _, _, _, _ => by rw [bothF]; exact ⟨fun h => absurd h inS_nil, fun h => h.1⟩
  | _ :: _, [], _, _, _, _ => by rw [bothF]; exact ⟨fun h => absurd h inS_nil, fun h => h.2⟩
  | p :: r, q :: s, lo, lo', h, h' => by
    rw [bothF, inS_append, inS_cons, inS_cons]
    have e1 : InS (if mxI p.1 q.1 ≤ mnI p.2 q.2 then [(mxI p.1 q.1, mnI p.2 q.2)] else []) n ↔ (p.1 ≤ n ∧ n ≤ p.2) ∧ (q.1 ≤ n ∧ n ≤ q.2) := by
      by_cases c : mxI p.1 q.1 ≤ mnI p.2 q.2
      · rw [if_pos c, inS_cons]
        show ((mxI p.1 q.1 ≤ n ∧ n ≤ mnI p.2 q.2) ∨ InS [] n) ↔ _
        rw [mxI_le, le_mnI]
        constructor
        · rintro (z | z)
          · omega
          · exact absurd z inS_nil
        · intro z
          exact .inl (by omega)
      · rw [if_neg c]
        constructor
        · exact fun z => absurd z inS_nil
        · intro z
          refine absurd (Int.le_trans (mxI_le.mpr ⟨z.1.1, z.2.1⟩) (le_mnI.mpr ⟨z.1.2, z.2.2⟩)) c
    rw [e1]
    by_cases d : p.2 < q.2
    · rw [if_pos d, bothF_in h.2.2 h', inS_cons]
      have no : InS s n → ¬ n ≤ p.2 := fun z => by
        have := h'.2.2.low z
        omega
      constructor
      · rintro (⟨z1, z2⟩ | ⟨z1, z2⟩)
        · exact ⟨.inl z1, .inl z2⟩
        · exact ⟨.inr z1, z2⟩
      · rintro ⟨z1 | z1, z2 | z2⟩
        · exact .inl ⟨z1, z2⟩
        · exact absurd z1.2 (no z2)
        · exact .inr ⟨z1, .inl z2⟩
        · exact .inr ⟨z1, .inr z2⟩
    · rw [if_neg d, bothF_in h h'.2.2, inS_cons]
      have no : InS r n → ¬ n ≤ q.2 := fun z => by
        have := h.2.2.low z
        omega
      constructor
      · rintro (⟨z1, z2⟩ | ⟨z1, z2⟩)
        · exact ⟨.inl z1, .inl z2⟩
        · exact ⟨z1, .inr z2⟩
      · rintro ⟨z1 | z1, z2 | z2⟩
        · exact .inl ⟨z1, z2⟩
        · exact .inr ⟨.inl z1, z2⟩
        · exact absurd z2.2 (no z1)
        · exact .inr ⟨.inr z1, z2⟩
termination_by ps qs => ps.length + qs.length
/-- what lies between the stretches of a set -/
def gapsF (e : Int) : Int → List (Int × Int) → List (Int × Int)
  | st, [] => [(st, e)]
  | st, p :: r => (st, mnI (p.1 - 1) e) :: gapsF e (mxI st (p.2 + 1)) r
theorem gapsF_length (e : Int) : ∀ (qs : List (Int × Int)) (st : Int), (gapsF e st qs).length = qs.length + 1
  | [], _ => rfl
  | _ :: r, _ => by rw [gapsF, List.length_cons, gapsF_length e r, List.length_cons]
theorem gapsF_in {e n : Int} : ∀ {qs : List (Int × Int)} {lo st : Int}, Ris lo qs → (InS (gapsF e st qs) n ↔ (st ≤ n ∧ n ≤ e) ∧ ¬ InS qs n)
  | [], _, st, _ => by
    rw [gapsF, inS_cons]
    constructor
    · rintro (z | z)
      · exact ⟨z, inS_nil⟩
      · exact absurd z inS_nil
    · exact fun z => .inl z.1
  | p :: r, lo, st, h => by
    rw [gapsF, inS_cons, gapsF_in h.2.2, inS_cons]
    show ((st ≤ n ∧ n ≤ mnI (p.1 - 1) e) ∨ (mxI st (p.2 + 1) ≤ n ∧ n ≤ e) ∧ ¬ InS r n) ↔ _
    rw [le_mnI, mxI_le]
    have h2 := h.2.1
    have no : n ≤ p.2 + 1 → ¬ InS r n := fun z y => by
      have := h.2.2.low y
      omega
    constructor
    · rintro (z | ⟨z, y⟩)
      · refine ⟨by omega, ?_⟩
        rintro (x | x)
        · omega
        · exact no (by omega) x
      · refine ⟨by omega, ?_⟩
        rintro (x | x)
        · omega
        · exact y x
    · rintro ⟨z, y⟩
      by_cases c : n < p.1
      · exact .inl (by omega)
      · refine .inr ⟨?_, fun x => y (.inr x)⟩
        have : ¬ (p.1 ≤ n ∧ n ≤ p.2) := fun x => y (.inl x)
        omega
/-- a set of just the numbers of which pr holds -/
structure Told (pr : Int → Prop) (rs : List (Int × Int)) : Prop where
  ris : ∃ lo, Ris lo rs
  same : ∀ n, InS rs n ↔ pr n
theorem Told.one {pr pr' : Int → Prop} {rs rs' : List (Int × Int)} (h : Told pr rs) (h' : Told pr' rs') (e : ∀ n, pr n ↔ pr' n) : rs = rs' := by
  obtain ⟨lo, r⟩ := h.ris
  obtain ⟨lo', r'⟩ := h'.ris
  exact ris_one r r' fun n => (h.same n).trans ((e n).trans (h'.same n).symm)
theorem Told.of {lo : Int} {rs : List (Int × Int)} (h : Ris lo rs) : Told (InS rs) rs := ⟨⟨lo, h⟩, fun _ => Iff.rfl⟩
theorem SetLike.told {ps rs : List (Int × Int)} (h : SetLike ps rs) : Told (InS ps) rs := ⟨h.ris, h.same⟩
theorem Told.cong {pr pr' : Int → Prop} {rs : List (Int × Int)} (h : Told pr rs) (e : ∀ n, pr n ↔ pr' n) : Told pr' rs := ⟨h.ris, fun n => (h.same n).trans (e n)⟩
theorem Told.nneg {pr : Int → Prop} {rs : List (Int × Int)} (h : Told pr rs) (hn : ∀ n, pr n → 0 ≤ n) : Ris 0 rs := by
  obtain ⟨lo, r⟩ := h.ris
  cases rs with
  | nil => exact True.intro
  | cons p q => exact ⟨hn _ ((h.same _).mp (inS_cons.mpr (.inl ⟨Int.le_refl _, r.2.1⟩))), r.2⟩

theorem cut_back (xs : List V) (m : Nat) : cutV xs (some (m : Int)) none = xs.drop m := by
  unfold cutV
  rw [HT.sIx_none, HT.sIx_nat]
  by_cases h : m ≤ xs.length
  · rw [Nat.min_eq_left h]
    exact List.take_of_length_le (by rw [List.length_drop]; exact Nat.le_refl _)
  · rw [Nat.min_eq_right (by omega), Nat.sub_self, List.take_zero, List.drop_eq_nil_of_le (by omega)]
theorem _root_.GP.Prs.append {H : Hp} {us ws : List V} {ps qs : List (Int × Int)} (h : Prs H us ps) (h' : Prs H ws qs) : Prs H (us ++ ws) (ps ++ qs) := by
  refine ⟨by rw [List.length_append, List.length_append, h.1, h'.1], fun i p e => ?_⟩
  by_cases hi : i < ps.length
  · rw [List.getElem?_append_left hi] at e
    rw [List.getElem?_append_left (by rw [h.1]; exact hi)]
    exact h.2 i p e
  · rw [List.getElem?_append_right (by omega)] at e
    rw [List.getElem?_append_right (by rw [h.1]; omega), h.1]
    exact h'.2 _ p e
theorem _root_.GP.Prs.take {H : Hp} {us : List V} {ps : List (Int × Int)} (h : Prs H us ps) (n : Nat) : Prs H (us.take n) (ps.take n) := by
  refine ⟨by rw [List.length_take, List.length_take, h.1], fun i p e => ?_⟩
  rw [List.getElem?_take] at e ⊢
  split at e
  · rename_i hi
    rw [if_pos hi]
    exact h.2 i p e
  · cases e
theorem _root_.GP.Prs.drop {H : Hp} {us : List V} {ps : List (Int × Int)} (h : Prs H us ps) (n : Nat) : Prs H (us.drop n) (ps.drop n) := by
  refine ⟨by rw [List.length_drop, List.length_drop, h.1], fun i p e => ?_⟩
  rw [List.getElem?_drop] at e ⊢
  exact h.2 _ p e
theorem _root_.GP.Prs.reverse {H : Hp} {us : List V} {ps : List (Int × Int)} (h : Prs H us ps) : Prs H us.reverse ps.reverse := by
  refine ⟨by rw [List.length_reverse, List.length_reverse, h.1], fun i p e => ?_⟩
  have hi : i < ps.length := by
    have z := (List.getElem?_eq_some_iff.mp e).1
    rwa [List.length_reverse] at z
  rw [List.getElem?_reverse hi] at e
  rw [List.getElem?_reverse (by rw [h.1]; exact hi), h.1]
  exact h.2 _ p e

/-! ### set_of -/
/-- the pair that a tracked tuple holds -/
def pairOf (H : Hp) : V → Int × Int
  | .ref t => (match H t with
    | some (.tup [.int i, .int j]) => (i, j)
    | _ => (0, 0))
  | _ => (0, 0)
theorem pairOf_at {H : Hp} {t : Addr} {p : Int × Int} (e : H t = some (.tup [.int p.1, .int p.2])) : pairOf H (.ref t) = p := by
  show (match H t with | some (.tup [.int i, .int j]) => (i, j) | _ => (0, 0)) = p
  rw [e]
abbrev sSetOf : Stmt := topS 13
theorem scSetOf : FnScope ["pairs", "merged", "first", "last", "low", "high", "pair"] ["pairs"] (defScope sSetOf) := ⟨rfl, rfl, rfl, by decide +kernel, rfl, by decide +kernel, by decide +kernel⟩
def spSetOf (K : PySem.W.Frag) : Sp := fun vs H Q _ => ∃ (a : Addr) (us : List V) (ps : List (Int × Int)), vs = [.ref a] ∧ Sq K H a us ∧ Prs H us ps ∧ ps.length ≤ 900 ∧
  ∀ (l : Addr) (ws : List V) (rs : List (Int × Int)) H', H l = none → H' l = some (.lst ws) → Prs H' ws rs → SetLike ps rs → Same H H' → Q (.ref l) H'
section
variable {K : PySem.W.Frag} {mg : Str → Option Value} {P : Program} {w : World} {base : Heap}
theorem ok_setof {f : Addr} {fd : FuncData} {k : Nat} (F : Fun K "set_of" "set_of" sSetOf f fd) (mso : mg "sorted" = none) (mx : mg "max" = none) : FnOk P w K mg base CX0 (k + 1) f fd ["pairs"] (spSetOf K) := by
  refine F.ok scSetOf (fun vs H Q E h => ?_) (fun cdv A outer s H vs Q E hr h => ?_)
  · obtain ⟨a, us, ps, rfl, _⟩ := h
    rfl
  · obtain ⟨a, us, ps, rfl, hq, hp, hz, q⟩ := h
    refine ⟨_, pss_cons (ps_set (i := 1) scSetOf.nd rfl (.inl rfl) (pe_lst pa_nil))
      (pss_cons (ps_for PassesOwn.never rfl (pi_list (pe_callB cr_sortedPO (by rfl) mso (by decide +kernel) (pa_cons (pe_lc (own := [("pair", 6)]) (g := gName 6) (tt := tTest (tOp (rI0 fun i j => .bl (decide (i ≤ j))) (tOp (rIxT K) (tVar 6) (tC (.int 0))) (tOp (rIxT K) (tVar 6) (tC (.int 1))))) rfl scSetOf.nd (pi_seq (pv 0))
          (blkOk_by (own := [("pair", 6)]) (N := ["pairs", "merged", "first", "last", "low", "high", "pair"]) (sc := defScope sSetOf) (by decide +kernel))
          (fun _ _ _ _ _ => pg_name (i := 6) scSetOf.nd rfl (.inl rfl)) (fun _ _ _ _ _ => pts_one (pt_cmpR op_le (pe_ix ix_tup (pv 6) pe_int (fun _ _ => rfl)) (pe_ix ix_tup (pv 6) pe_int (fun _ _ => rfl)) (nomark _))) (fun _ _ _ _ _ => pv 6)) pa_nil)))
        (pg_tup rfl (pgs_cons (pg_name (i := 2) scSetOf.nd rfl (.inl rfl)) (pgs_cons (pg_name (i := 3) scSetOf.nd rfl (.inl rfl)) pgs_nil)))
        (pss_one (ps_if (PW.pt (pw_and (pt_truth (pv 1) (by intro _; rfl)) (pw_and1 (pt_cmpR op_le (pv 2) (pe_op op_add (pe_ix ix_tup (pe_ix ix_list (pv 1) (pe_un un_neg pe_int) (fun _ _ => rfl)) pe_int (fun _ _ => rfl)) pe_int) (nomark _)))))
          (pss_cons (ps_asg (pe_ix ix_list (pv 1) (pe_un un_neg pe_int) (fun _ _ => rfl)) (pg_tup rfl (pgs_cons (pg_name (i := 4) scSetOf.nd rfl (.inl rfl)) (pgs_cons (pg_name (i := 5) scSetOf.nd rfl (.inl rfl)) pgs_nil))))
          (pss_one (ps_asg (pe_tup (pa_cons (pv 4) (pa_cons (pe_callB (call_max2 rfl) (by rfl) mx (by decide +kernel) (pa_cons (pv 5) (pa_cons (pv 3) pa_nil))) pa_nil))) (pg_sub (pv 1) (pe_un un_neg pe_int) set_list))))
          (pss_one (ps_expr (pe_bm PySem.F.plainAttrs_list PySem.F.slot_list_append PySem.F.type_list_append mt_append (pv 1) (pa_cons (pe_tup (pa_cons (pv 2) (pa_cons (pv 3) pa_nil))) pa_nil)))))))
      (pss_one (ps_ret (pv 1)))), ?_⟩
    -- merged = []
    refine ⟨Nat.zero_le _, fun mg' nm => ?_⟩
    have s1 := same_upd (o := .lst []) nm
    have em1 : upd H mg' (.lst []) mg' = some (.lst []) := upd_same
    revert s1 em1
    generalize upd H mg' (.lst []) = H1
    intro s1 em1
    -- [pair for pair in pairs if ..]
    refine ⟨.ref a, rfl, a, rfl, lc_seq (xs := us) (hq.same s1) (fun D i H' => Same H1 H' ∧ ∃ ys, H' D = some (.lst ys) ∧ Prs H' ys ((ps.take i).filter fun p => decide (p.1 ≤ p.2)) ∧ ys.length ≤ i) (fun D nD => ⟨same_upd nD, [], upd_same, Prs.nil, Nat.le_refl _⟩)
      (fun D i H' nD hP => SqTo.same hP.1) (fun D i x H' nD hx hP => ?_) (fun D H2 nD hP => ?_)⟩
    · obtain ⟨sm, ys, eD, hys, hyl⟩ := hP
      obtain ⟨p, T, ep, rfl, eT⟩ := prs_at hp hx
      have hi : i < us.length := (List.getElem?_eq_some_iff.mp hx).1
      rw [hp.1] at hi
      have eT' := sm _ _ (s1 _ _ eT)
      refine ⟨rfl, _, rfl, T, _, 0, .int p.1, rfl, rfl, .inl (.inl eT'), atI_nat (j := 0) rfl, _, rfl, T, _, 1, .int p.2, rfl, rfl, .inl (.inl eT'), atI_nat (j := 1) rfl, p.1, p.2, rfl, rfl, _, rfl, ?_⟩
      have etake : (ps.take (i + 1)).filter (fun p => decide (p.1 ≤ p.2)) = (ps.take i).filter (fun p => decide (p.1 ≤ p.2)) ++ (if p.1 ≤ p.2 then [p] else []) := by
        rw [List.take_add_one, ep, List.filter_append]
        by_cases c : p.1 ≤ p.2
        · rw [if_pos c]; simp [c]
        · rw [if_neg c]; simp [c]
      refine ite2 (fun c => ?_) (fun c => ?_)
      · have c' := of_decide_eq_true c
        refine ⟨_, rfl, ys, eD, small1000 (by omega), fun b o e => ?_, _, upd_same, ?_, by rw [List.length_append]; show ys.length + 1 ≤ i + 1; omega⟩
        · rw [upd_ne (ne_of_none e nD)]
          exact sm b o e
        · rw [etake, if_pos c']
          exact (hys.snoc eT').upd_lst eD
      · have c' : ¬ p.1 ≤ p.2 := fun z => c (decide_eq_true z)
        refine ⟨sm, ys, eD, ?_, by omega⟩
        rw [etake, if_neg c', List.append_nil]
        exact hys
    · -- sorted
      obtain ⟨sm, ys, eD, hys, hyl⟩ := hP
      rw [hp.1, List.take_length] at hys
      refine ⟨D, ys, pairOf H2, rfl, SqL.of eD, fun x hx => ?_, fun zs g srt stb ng => ?_⟩
      · obtain ⟨i, hi, e⟩ := List.getElem_of_mem hx
        obtain ⟨p, T, _, rfl, eT⟩ := prs_at hys (by rw [List.getElem?_eq_getElem hi, e])
        exact ⟨T, rfl, by rw [pairOf_at eT]; exact eT⟩
      have sg := same_upd (o := .lst zs) ng
      have eg : upd H2 g (.lst zs) g = some (.lst zs) := upd_same
      have s3 : Same H (upd H2 g (.lst zs)) := (s1.trans sm).trans sg
      have em3 := sg _ _ (sm _ _ em1)
      -- the pairs of zs
      have each : ∀ x ∈ zs, ∃ T, x = .ref T ∧ H2 T = some (.tup [.int (pairOf H2 x).1, .int (pairOf H2 x).2]) := fun x hx => by
        obtain ⟨i, hi, e⟩ := List.getElem_of_mem (stb.perm.mem_iff.mp hx)
        obtain ⟨p, T, _, rfl, eT⟩ := prs_at hys (by rw [List.getElem?_eq_getElem hi, e])
        exact ⟨T, rfl, by rw [pairOf_at eT]; exact eT⟩
      have hzs : Prs H2 zs (zs.map (pairOf H2)) := ⟨by rw [List.length_map], fun i p e => by
        rw [List.getElem?_map] at e
        cases h : zs[i]? with
        | none => rw [h] at e; cases e
        | some x =>
          rw [h] at e
          cases e
          obtain ⟨T, rfl, eT⟩ := each x (List.mem_of_getElem? h)
          exact ⟨T, rfl, eT⟩⟩
      have hmap : ys.map (pairOf H2) = ps.filter fun p => decide (p.1 ≤ p.2) := by
        refine List.ext_getElem? fun i => ?_
        rw [List.getElem?_map]
        cases h : ys[i]? with
        | none =>
          have : (ps.filter fun p => decide (p.1 ≤ p.2))[i]? = none := by
            rw [List.getElem?_eq_none_iff] at h ⊢
            rw [← hys.1]
            exact h
          rw [this]
          rfl
        | some x =>
          obtain ⟨p, T, ep, rfl, eT⟩ := prs_at hys h
          rw [ep]
          show some (pairOf H2 (.ref T)) = some p
          rw [pairOf_at eT]
      have hperm : (zs.map (pairOf H2)).Perm (ps.filter fun p => decide (p.1 ≤ p.2)) := hmap ▸ stb.perm.map (pairOf H2)
      have hle : ∀ p ∈ zs.map (pairOf H2), p.1 ≤ p.2 := fun p hp' => by
        have := hperm.mem_iff.mp hp'
        exact of_decide_eq_true (List.mem_filter.mp this).2
      have hord : (zs.map (pairOf H2)).Pairwise fun x y => x.1 ≤ y.1 := by
        rw [List.pairwise_map]
        refine srt.imp fun {x y} h => ?_
        have := SrtO.lexB_no.mp h
        omega
      have hzl : zs.length ≤ 900 := by
        rw [stb.perm.length_eq, hys.1]
        exact Nat.le_trans (List.length_filter_le _ _) hz
      revert hzs hperm hle hord
      generalize zs.map (pairOf H2) = qs
      intro hzs hperm hle hord
      have hzs3 := hzs.same sg
      revert eg s3 em3 hzs3
      generalize upd H2 g (.lst zs) = H3
      intro eg s3 em3 hzs3
      have ngH : H g = none := (s1.trans sm).free ng
      have nmg : mg' ≠ g := ne_of_none (sm _ _ em1) ng
      -- the merging
      refine ⟨g, rfl, ⟨_, SqL.of eg⟩, for_list (xs := zs) (fun i σ H4 => ∃ (ms : List V) (rs : List (Int × Int)) (y2 y3 y4 y5 y6 : Option V), σ = [some (.ref a), some (.ref mg'), y2, y3, y4, y5, y6] ∧ Same H H4 ∧ H4 g = some (.lst zs) ∧ Prs H4 zs qs ∧ H4 mg' = some (.lst ms) ∧ Prs H4 ms rs ∧ Mrg (qs.take i) rs)
        ⟨[], [], _, _, _, _, _, rfl, s3, eg, hzs3, em3, Prs.nil, Mrg.nil⟩ (fun i σ H4 _ hP => ?_) (fun i x σ H4 hx hP => ?_) (fun σ H4 hP => ?_)⟩
      · obtain ⟨_, _, _, _, _, _, _, rfl, _, e, _⟩ := hP
        exact SqL.of e
      · obtain ⟨ms, rs, y2, y3, y4, y5, y6, rfl, sm4, eg4, hz4, em4, hms, m⟩ := hP
        obtain ⟨p, T, ep, rfl, eT⟩ := prs_at hz4 hx
        have hi : i < qs.length := (List.getElem?_eq_some_iff.mp ep).1
        have hp12 : p.1 ≤ p.2 := hle p (List.mem_of_getElem? ep)
        have ord : ∀ q ∈ qs.take i, q.1 ≤ p.1 := fun q hq' => by
          obtain ⟨j, hj, e⟩ := List.getElem_of_mem hq'
          rw [List.length_take] at hj
          rw [List.getElem_take] at e
          obtain ⟨_, e2⟩ := List.getElem?_eq_some_iff.mp ep
          rw [← e, ← e2]
          exact List.pairwise_iff_getElem.mp hord j i (by omega) hi (by omega)
        have etake : qs.take (i + 1) = qs.take i ++ [p] := by rw [List.take_add_one, ep]; rfl
        have hmsl : ms.length ≤ 900 := by
          have := m.len
          rw [List.length_take] at this
          have := hzs.1
          rw [hms.1]
          omega
        refine ⟨T, _, rfl, .inl (.inl eT), rfl, _, _, rfl, _, _, rfl, rfl, ?_⟩
        -- what a new tuple and a change of merged leave
        have grow : ∀ (T2 : Addr) (p2 : Int × Int) (ms2 : List V) (rs2 : List (Int × Int)), H4 T2 = none → Prs (upd H4 T2 (.tup [.int p2.1, .int p2.2])) ms2 rs2 →
            Same H (upd (upd H4 T2 (.tup [.int p2.1, .int p2.2])) mg' (.lst ms2)) ∧ upd (upd H4 T2 (.tup [.int p2.1, .int p2.2])) mg' (.lst ms2) g = some (.lst zs) ∧ Prs (upd (upd H4 T2 (.tup [.int p2.1, .int p2.2])) mg' (.lst ms2)) zs qs ∧ upd (upd H4 T2 (.tup [.int p2.1, .int p2.2])) mg' (.lst ms2) mg' = some (.lst ms2) ∧ Prs (upd (upd H4 T2 (.tup [.int p2.1, .int p2.2])) mg' (.lst ms2)) ms2 rs2 := by
          intro T2 p2 ms2 rs2 n2 h2
          have st := same_upd (o := .tup [.int p2.1, .int p2.2]) n2
          have em5 := st _ _ em4
          refine ⟨fun b o e => ?_, ?_, (hz4.same st).upd_lst em5, upd_same, h2.upd_lst em5⟩
          · rw [upd_ne (ne_of_none e nm)]
            exact st _ _ (sm4 _ _ e)
          · rw [upd_ne nmg.symm]
            exact st _ _ eg4
        -- append
        have app : (∀ r ∈ rs, r.2 + 2 ≤ p.1) → (tDrop (tBM K "list" rAppend (tVar 1) (tCons (tTup (tCons (tVar 2) (tCons (tVar 3) tNil))) tNil))) { nx := fun σ H4 => ∃ (ms : List V) (rs : List (Int × Int)) (y2 y3 y4 y5 y6 : Option V), σ = [some (.ref a), some (.ref mg'), y2, y3, y4, y5, y6] ∧ Same H H4 ∧ H4 g = some (.lst zs) ∧ Prs H4 zs qs ∧ H4 mg' = some (.lst ms) ∧ Prs H4 ms rs ∧ Mrg (qs.take (i + 1)) rs, rt := fun _ _ => False } [some (.ref a), some (.ref mg'), some (.int p.1), some (.int p.2), y4, y5, y6] H4 := by
          intro far
          refine ⟨.ref mg', rfl, .inl ⟨rfl, _, SqL.of em4⟩, _, rfl, _, rfl, (by show 2 ≤ sizeLine; decide), fun T2 n2 => ?_⟩
          have st := same_upd (o := .tup [.int p.1, .int p.2]) n2
          refine ⟨mg', _, _, rfl, rfl, st _ _ em4, small1000 (by omega), ?_⟩
          obtain ⟨g1, g2, g3, g4, g5⟩ := grow T2 p (ms ++ [.ref T2]) (rs ++ [p]) n2 ((hms.same st).snoc upd_same)
          exact ⟨_, _, _, _, _, _, _, rfl, g1, g2, g3, g4, g5, by rw [etake]; exact m.new hp12 ord far⟩
        rcases snoc_cases rs with e0 | ⟨rs', ⟨lo, hi'⟩, e0⟩
        · have e1 : ms = [] := List.eq_nil_of_length_eq_zero (by rw [hms.1, e0]; rfl)
          have em0 : H4 mg' = some (.lst []) := by rw [em4, e1]
          refine ⟨.ref mg', rfl, false, .inl ⟨[], SqL.of em0, rfl⟩, iteF (iteF ?_)⟩
          exact app (by rw [e0]; exact fun _ z => nomatch z)
        · subst e0
          obtain ⟨ms', T0, rfl, eT0, hms'⟩ := hms.last
          refine ⟨.ref mg', rfl, true, .inl ⟨_, SqL.of em4, by simp⟩, iteT ?_⟩
          refine ⟨_, rfl, .ref mg', rfl, 1, rfl, mg', _, -1, .ref T0, rfl, rfl, SqL.of em4, atI_last _ _, T0, _, 1, .int hi', rfl, rfl, .inl (.inl eT0), atI_nat (j := 1) rfl, hi', 1, rfl, rfl, p.1, _, rfl, rfl, _, rfl, ite2 (fun c => ?_) (fun c => ?_)⟩
          · have c' := of_decide_eq_true c
            refine ⟨.ref mg', rfl, 1, rfl, mg', _, -1, .ref T0, rfl, rfl, SqL.of em4, atI_last _ _, T0, _, rfl, .inl (.inl eT0), rfl, _, _, rfl, _, _, rfl, rfl, ?_⟩
            refine ⟨_, rfl, _, rfl, _, rfl, hi', p.2, rfl, (by show 2 ≤ sizeLine; decide), fun T2 n2 => ?_⟩
            have st := same_upd (o := .tup [.int lo, .int (if p.2 > hi' then p.2 else hi')]) n2
            have ei : ixN (ms' ++ [V.ref T0]).length (-1) = some ms'.length := by
              unfold ixN
              rw [if_neg (by decide), List.length_append, if_pos (by show -((ms'.length + 1 : Nat) : Int) ≤ -1; omega)]
              show some ((-1 : Int) + ((ms'.length + 1 : Nat) : Int)).toNat = _
              congr 1
              omega
            refine ⟨.ref mg', rfl, 1, rfl, mg', _, -1, ms'.length, rfl, rfl, st _ _ em4, ei, ?_⟩
            have es : (ms' ++ [V.ref T0]).set ms'.length (.ref T2) = ms' ++ [.ref T2] := by simp
            rw [es]
            obtain ⟨g1, g2, g3, g4, g5⟩ := grow T2 (lo, if p.2 > hi' then p.2 else hi') (ms' ++ [.ref T2]) (rs' ++ [(lo, if p.2 > hi' then p.2 else hi')]) n2 ((hms'.same st).snoc upd_same)
            exact ⟨_, _, _, _, _, _, _, rfl, g1, g2, g3, g4, g5, by rw [etake]; exact m.join hp12 ord c'⟩
          · have c' : ¬ p.1 ≤ hi' + 1 := fun z => c (decide_eq_true z)
            refine app fun r hr' => ?_
            obtain ⟨lo', hR⟩ := m.ris
            obtain ⟨_, h2, _, h4⟩ := Ris.front hR
            have h4' : lo ≤ hi' := h4
            rcases List.mem_append.mp hr' with y | y
            · have : r.2 + 2 ≤ lo := h2 r y
              omega
            · rw [List.mem_singleton.mp y]
              show hi' + 2 ≤ p.1
              omega
      · obtain ⟨ms, rs, y2, y3, y4, y5, y6, rfl, sm4, eg4, hz4, em4, hms, m⟩ := hP
        rw [hzs.1, List.take_length] at m
        refine ⟨_, rfl, q mg' ms rs H4 nm em4 hms ⟨m.ris, m.same.trans fun n => ?_, Nat.le_trans m.len (Nat.le_trans (Nat.le_of_eq hperm.length_eq) (List.length_filter_le _ _))⟩ sm4⟩
        constructor
        · rintro ⟨r, hr', e⟩
          exact ⟨r, (List.mem_filter.mp (hperm.mem_iff.mp hr')).1, e⟩
        · rintro ⟨r, hr', e⟩
          exact ⟨r, hperm.mem_iff.mpr (List.mem_filter.mpr ⟨hr', decide_eq_true (by omega)⟩), e⟩
end

def RetS (H : Hp) (pr : Int → Prop) (m : Nat) (Q : V → Hp → Prop) : Prop := ∀ (l : Addr) (ws : List V) (rs : List (Int × Int)) H', H l = none → H' l = some (.lst ws) → Prs H' ws rs → Told pr rs → rs.length ≤ m → Same H H' → Q (.ref l) H'

/-! ### what stands where: pairs in a list or a tuple -/
def PrA (K : PySem.W.Frag) (H : Hp) (a : Addr) (ps : List (Int × Int)) : Prop := ∃ us, Sq K H a us ∧ Prs H us ps
def LsA (H : Hp) (a : Addr) (ps : List (Int × Int)) : Prop := ∃ us, H a = some (.lst us) ∧ Prs H us ps
theorem LsA.pr {K : PySem.W.Frag} {H : Hp} {a : Addr} {ps : List (Int × Int)} (h : LsA H a ps) : PrA K H a ps := let ⟨us, e, p⟩ := h; ⟨us, Sq.list e, p⟩
theorem LsA.same {H H' : Hp} {a : Addr} {ps : List (Int × Int)} (h : LsA H a ps) (s : Same H H') : LsA H' a ps := let ⟨us, e, p⟩ := h; ⟨us, s _ _ e, p.same s⟩
theorem PrA.same {K : PySem.W.Frag} {H H' : Hp} {a : Addr} {ps : List (Int × Int)} (h : PrA K H a ps) (s : Same H H') : PrA K H' a ps := let ⟨us, e, p⟩ := h; ⟨us, e.same s, p.same s⟩
theorem LsA.nil {H : Hp} {a : Addr} (e : H a = some (.lst [])) : LsA H a [] := ⟨[], e, Prs.nil⟩
theorem LsA.dp {K : PySem.W.Frag} {H : Hp} {a : Addr} {ps : List (Int × Int)} (h : LsA H a ps) : Dp K H (.ref a) (.list (ps.map pairD)) := let ⟨_, e, p⟩ := h; .lst (SqL.of e) (dp_prs p)
/-- a told set: a new list -/
def TellS (pr : Int → Prop) (m : Nat) (H : Hp) (Q : VK) : Prop := ∀ l rs H', H l = none → LsA H' l rs → Told pr rs → rs.length ≤ m → Same H H' → Q (.ref l) H'
/-! ### both_of -/
abbrev sBoth : Stmt := topS 14
theorem scBoth : FnScope ["one", "other", "shared", "at", "to", "first", "last"] ["one", "other"] (defScope sBoth) := ⟨rfl, rfl, rfl, by decide +kernel, rfl, by decide +kernel, by decide +kernel⟩
def spBoth (K : PySem.W.Frag) : Sp := fun vs H Q _ => ∃ (a b : Addr) (ps qs : List (Int × Int)), vs = [.ref a, .ref b] ∧ PrA K H a ps ∧ PrA K H b qs ∧ (∃ lo, Ris lo ps) ∧ (∃ lo, Ris lo qs) ∧ ps.length + qs.length ≤ 900 ∧ TellS (fun n => InS ps n ∧ InS qs n) (ps.length + qs.length) H Q
/-- between two turns -/
def BothW (H : Hp) (a b sh : Addr) (ps qs : List (Int × Int)) (m : Nat) (σ : L2.St) (H1 : Hp) : Prop := ∃ (i j : Nat) (ms : List V) (rs : List (Int × Int)) (y5 y6 : Option V), σ = [some (.ref a), some (.ref b), some (.ref sh), some (.int i), some (.int j), y5, y6] ∧ m = (ps.length - i) + (qs.length - j) ∧ i ≤ ps.length ∧ j ≤ qs.length ∧ Same H H1 ∧
  H1 sh = some (.lst ms) ∧ Prs H1 ms rs ∧ rs.length ≤ i + j ∧ rs ++ bothF (ps.drop i) (qs.drop j) = bothF ps qs
section
variable {K : PySem.W.Frag} {mg : Str → Option Value} {P : Program} {w : World} {base : Heap}
theorem ok_both {f : Addr} {fd : FuncData} {k : Nat} (F : Fun K "both_of" "both_of" sBoth f fd) (ml : mg "len" = none) (mx : mg "max" = none) (mn : mg "min" = none) : FnOk P w K mg base CX0 (k + 1) f fd ["one", "other"] (spBoth K) := by
  refine F.ok scBoth (fun vs H Q E h => ?_) (fun cdv A outer s H vs Q E hr h => ?_)
  · obtain ⟨a, b, ps, qs, rfl, _⟩ := h
    rfl
  · obtain ⟨a, b, ps, qs, rfl, ⟨us, ha, hps⟩, ⟨ws, hb, hqs⟩, ⟨lo, hr1⟩, ⟨lo', hr2⟩, hz, q⟩ := h
    refine ⟨_, pss_cons (ps_set (i := 2) scBoth.nd rfl (.inl rfl) (pe_lst pa_nil))
      (pss_cons (ps_set (i := 3) scBoth.nd rfl (.inl rfl) pe_int)
      (pss_cons (ps_set (i := 4) scBoth.nd rfl (.inl rfl) pe_int)
      (pss_cons (ps_while PassesOwn.never (PW.pt (pw_and (pt_cmpR op_lt (pv 3) (pe_callB call_len_seq (by rfl) ml PySem.boot_len (pa_cons (pv 0) pa_nil)) (nomark _)) (pw_and1 (pt_cmpR op_lt (pv 4) (pe_callB call_len_seq (by rfl) ml PySem.boot_len (pa_cons (pv 1) pa_nil)) (nomark _)))))
        (pss_cons (ps_set (i := 5) scBoth.nd rfl (.inl rfl) (pe_callB (call_max2 rfl) (by rfl) mx (by decide +kernel) (pa_cons (pe_ix ix_tup (pe_ix ix_seq (pv 0) (pv 3) (fun _ _ => rfl)) pe_int (fun _ _ => rfl)) (pa_cons (pe_ix ix_tup (pe_ix ix_seq (pv 1) (pv 4) (fun _ _ => rfl)) pe_int (fun _ _ => rfl)) pa_nil))))
        (pss_cons (ps_set (i := 6) scBoth.nd rfl (.inl rfl) (pe_callB (call_min2 rfl) (by rfl) mn (by decide +kernel) (pa_cons (pe_ix ix_tup (pe_ix ix_seq (pv 0) (pv 3) (fun _ _ => rfl)) pe_int (fun _ _ => rfl)) (pa_cons (pe_ix ix_tup (pe_ix ix_seq (pv 1) (pv 4) (fun _ _ => rfl)) pe_int (fun _ _ => rfl)) pa_nil))))
        (Evl.pss_cut (ps_if (pt_cmpR op_le (pv 5) (pv 6) (nomark _)) (pss_one (ps_expr (pe_bm PySem.F.plainAttrs_list PySem.F.slot_list_append PySem.F.type_list_append mt_append (pv 2) (pa_cons (pe_tup (pa_cons (pv 5) (pa_cons (pv 6) pa_nil))) pa_nil)))) pss_nil)
        (pss_one (ps_if (pt_cmpR op_lt (pe_ix ix_tup (pe_ix ix_seq (pv 0) (pv 3) (fun _ _ => rfl)) pe_int (fun _ _ => rfl)) (pe_ix ix_tup (pe_ix ix_seq (pv 1) (pv 4) (fun _ _ => rfl)) pe_int (fun _ _ => rfl)) (nomark _))
          (pss_one (ps_aug (i := 3) scBoth.nd rfl (.inl rfl) pe_int ip_add)) (pss_one (ps_aug (i := 4) scBoth.nd rfl (.inl rfl) pe_int ip_add))))))))
      (pss_one (ps_ret (pv 2)))))), ?_⟩
    refine ⟨Nat.zero_le _, fun sh nsh => ?_⟩
    have s0 := same_upd (o := .lst []) nsh
    have hl1 := hps.1
    have hl2 := hqs.1
    refine ⟨BothW H a b sh ps qs, ⟨_, 0, 0, [], [], none, none, rfl, rfl, Nat.zero_le _, Nat.zero_le _, s0, upd_same, Prs.nil, Nat.le_refl _, rfl⟩, fun m σ H1 hW => ?_⟩
    obtain ⟨i, j, ms, rs, y5, y6, rfl, rfl, hi, hj, sm, esh, hms, hrl, hbo⟩ := hW
    have ha1 := ha.same sm
    have hb1 := hb.same sm
    -- the end: nothing is left of one
    have fin : bothF (ps.drop i) (qs.drop j) = [] → Q (.ref sh) H1 := by
      intro e
      rw [e, List.append_nil] at hbo
      subst hbo
      exact q sh (bothF ps qs) H1 nsh ⟨ms, esh, hms⟩ ⟨⟨lo, bothF_ris hr1 hr2 (.inl (Int.le_refl _))⟩, fun n => bothF_in hr1 hr2⟩ (by omega) sm
    refine ⟨_, rfl, _, rfl, a, us, rfl, ha1, (i : Int), (us.length : Int), rfl, rfl, _, rfl, ite2 (fun c1 => ?_) (fun c1 => ?_)⟩
    · have c1' := of_decide_eq_true c1
      refine ⟨_, rfl, _, rfl, b, ws, rfl, hb1, (j : Int), (ws.length : Int), rfl, rfl, _, rfl, ite2 (fun c2 => ?_) (fun c2 => ?_)⟩
      · have c2' := of_decide_eq_true c2
        have hi' : i < ps.length := by omega
        have hj' : j < qs.length := by omega
        obtain ⟨T1, g1, e1⟩ := hps.2 i ps[i] (List.getElem?_eq_getElem hi')
        obtain ⟨T2, g2, e2⟩ := hqs.2 j qs[j] (List.getElem?_eq_getElem hj')
        have ed1 := drop_at (List.getElem?_eq_getElem hi')
        have ed2 := drop_at (List.getElem?_eq_getElem hj')
        revert e1 e2 ed1 ed2
        generalize ps[i] = p
        generalize qs[j] = r
        intro e1 e2 ed1 ed2
        have f1 := sm _ _ e1
        have f2 := sm _ _ e2
        rw [ed1, ed2, bothF] at hbo
        refine ⟨fun σ' H' => ∃ m', m' < (ps.length - i) + (qs.length - j) ∧ BothW H a b sh ps qs m' σ' H', fun σ' H' h => h, ?_⟩
        -- first, last
        refine ⟨_, rfl, _, rfl, a, us, i, .ref T1, rfl, rfl, ha1, atI_nat g1, T1, _, 0, .int p.1, rfl, rfl, .inl (.inl f1), atI_nat (j := 0) rfl, _, rfl, _, rfl, b, ws, j, .ref T2, rfl, rfl, hb1, atI_nat g2, T2, _, 0, .int r.1, rfl, rfl, .inl (.inl f2), atI_nat (j := 0) rfl, p.1, r.1, rfl, ?_⟩
        refine ⟨_, rfl, _, rfl, a, us, i, .ref T1, rfl, rfl, ha1, atI_nat g1, T1, _, 1, .int p.2, rfl, rfl, .inl (.inl f1), atI_nat (j := 1) rfl, _, rfl, _, rfl, b, ws, j, .ref T2, rfl, rfl, hb1, atI_nat g2, T2, _, 1, .int r.2, rfl, rfl, .inl (.inl f2), atI_nat (j := 1) rfl, p.2, r.2, rfl, ?_⟩
        refine ⟨fun σ' H2 => ∃ ms2 rs2, σ' = [some (.ref a), some (.ref b), some (.ref sh), some (.int i), some (.int j), some (.int (mxI p.1 r.1)), some (.int (mnI p.2 r.2))] ∧ Same H H2 ∧ H2 sh = some (.lst ms2) ∧ Prs H2 ms2 rs2 ∧ rs2.length ≤ i + j + 1 ∧
          rs2 ++ (if p.2 < r.2 then bothF (ps.drop (i + 1)) (r :: qs.drop (j + 1)) else bothF (p :: ps.drop (i + 1)) (qs.drop (j + 1))) = bothF ps qs, ?_, fun σ' H2 hM => ?_⟩
        · refine ⟨_, rfl, _, rfl, mxI p.1 r.1, mnI p.2 r.2, rfl, rfl, _, rfl, ite2 (fun c => ?_) (fun c => ?_)⟩
          · have c' := of_decide_eq_true c
            rw [if_pos c', ← List.append_assoc] at hbo
            refine ⟨_, rfl, .inl ⟨rfl, _, SqL.of esh⟩, _, rfl, _, rfl, (by show 2 ≤ sizeLine; decide), fun T nT => ?_⟩
            have sT := same_upd (o := .tup [.int (mxI p.1 r.1), .int (mnI p.2 r.2)]) nT
            refine ⟨sh, _, _, rfl, rfl, sT _ _ esh, small1000 (by have := hms.1; omega), ?_⟩
            refine ⟨_, _, rfl, fun b o e => ?_, upd_same, ((hms.same sT).snoc upd_same).upd_lst (sT _ _ esh), by rw [List.length_append]; exact Nat.add_le_add_right hrl 1, hbo⟩
            rw [upd_ne (ne_of_none e nsh)]
            exact sT _ _ (sm b o e)
          · have c' : ¬ mxI p.1 r.1 ≤ mnI p.2 r.2 := fun z => c (decide_eq_true z)
            rw [if_neg c', List.nil_append] at hbo
            exact ⟨ms, rs, rfl, sm, esh, hms, by omega, hbo⟩
        · obtain ⟨ms2, rs2, rfl, sm2, esh2, hms2, hl3, hb3⟩ := hM
          have ha2 := ha.same sm2
          have hb2 := hb.same sm2
          have f1' := sm2 _ _ e1
          have f2' := sm2 _ _ e2
          refine ⟨_, rfl, _, rfl, a, us, i, .ref T1, rfl, rfl, ha2, atI_nat g1, T1, _, 1, .int p.2, rfl, rfl, .inl (.inl f1'), atI_nat (j := 1) rfl, _, rfl, _, rfl, b, ws, j, .ref T2, rfl, rfl, hb2, atI_nat g2, T2, _, 1, .int r.2, rfl, rfl, .inl (.inl f2'), atI_nat (j := 1) rfl, p.2, r.2, rfl, rfl, _, rfl, ite2 (fun c => ?_) (fun c => ?_)⟩
          · have c' := of_decide_eq_true c
            rw [if_pos c', ← ed2] at hb3
            exact ⟨_, rfl, (i : Int), 1, rfl, rfl, _, by omega, i + 1, j, ms2, rs2, _, _, rfl, rfl, by omega, hj, sm2, esh2, hms2, by omega, hb3⟩
          · have c' : ¬ p.2 < r.2 := fun z => c (decide_eq_true z)
            rw [if_neg c', ← ed1] at hb3
            exact ⟨_, rfl, (j : Int), 1, rfl, rfl, _, by omega, i, j + 1, ms2, rs2, _, _, rfl, rfl, hi, by omega, sm2, esh2, hms2, by omega, hb3⟩
      · have c' : ¬ (j : Int) < ws.length := fun z => c2 (decide_eq_true z)
        refine ⟨_, rfl, fin ?_⟩
        rw [List.drop_eq_nil_of_le (by omega : qs.length ≤ j)]
        exact bothF_nil _
    · have c' : ¬ (i : Int) < us.length := fun z => c1 (decide_eq_true z)
      refine ⟨_, rfl, fin ?_⟩
      rw [List.drop_eq_nil_of_le (by omega : ps.length ≤ i), bothF]
end
/-! ### gaps_of -/
abbrev sGaps : Stmt := topS 15
theorem scGaps : FnScope ["some", "begin", "end", "gaps", "start", "first", "last"] ["some", "begin", "end"] (defScope sGaps) := ⟨rfl, rfl, rfl, by decide +kernel, rfl, by decide +kernel, by decide +kernel⟩
def spGaps (K : PySem.W.Frag) : Sp := fun vs H Q _ => ∃ (a : Addr) (qs : List (Int × Int)) (x y : Int), vs = [.ref a, .int x, .int y] ∧ PrA K H a qs ∧ (∃ lo, Ris lo qs) ∧ qs.length ≤ 800 ∧ TellS (fun n => (x ≤ n ∧ n ≤ y) ∧ ¬ InS qs n) (qs.length + 1) H Q
section
variable {K : PySem.W.Frag} {mg : Str → Option Value} {P : Program} {w : World} {base : Heap}
theorem ok_gaps {f : Addr} {fd : FuncData} (F : Fun K "gaps_of" "gaps_of" sGaps f fd) (CO : Cal P w K mg base 1 "set_of" ["pairs"] (spSetOf K)) (mx : mg "max" = none) (mn : mg "min" = none) : FnOk P w K mg base CX0 2 f fd ["some", "begin", "end"] (spGaps K) := by
  refine F.ok scGaps (fun vs H Q E h => ?_) (fun cdv A outer s H vs Q E hr h => ?_)
  · obtain ⟨a, qs, x, y, rfl, _⟩ := h
    rfl
  · obtain ⟨a, qs, x, y, rfl, ⟨ws, hb, hqs⟩, ⟨lo, hr2⟩, hz, q⟩ := h
    refine ⟨_, pss_cons (ps_set (i := 3) scGaps.nd rfl (.inl rfl) (pe_lst pa_nil))
      (pss_cons (ps_set (i := 4) scGaps.nd rfl (.inl rfl) (pv 1))
      (pss_cons (ps_for PassesOwn.never rfl (pi_seq (pv 0)) (pg_tup rfl (pgs_cons (pg_name (i := 5) scGaps.nd rfl (.inl rfl)) (pgs_cons (pg_name (i := 6) scGaps.nd rfl (.inl rfl)) pgs_nil)))
        (pss_cons (ps_expr (pe_bm PySem.F.plainAttrs_list PySem.F.slot_list_append PySem.F.type_list_append mt_append (pv 3) (pa_cons (pe_tup (pa_cons (pv 4) (pa_cons (pe_callB (call_min2 rfl) (by rfl) mn (by decide +kernel) (pa_cons (pe_op op_sub (pv 5) pe_int) (pa_cons (pv 2) pa_nil))) pa_nil))) pa_nil)))
        (pss_one (ps_set (i := 4) scGaps.nd rfl (.inl rfl) (pe_callB (call_max2 rfl) (by rfl) mx (by decide +kernel) (pa_cons (pv 4) (pa_cons (pe_op op_add (pv 6) pe_int) pa_nil)))))))
      (pss_cons (ps_expr (pe_bm PySem.F.plainAttrs_list PySem.F.slot_list_append PySem.F.type_list_append mt_append (pv 3) (pa_cons (pe_tup (pa_cons (pv 4) (pa_cons (pv 2) pa_nil))) pa_nil)))
      (pss_one (ps_ret (pe_own CO hr (by rfl) (pa_cons (pv 3) pa_nil))))))), ?_⟩
    refine ⟨Nat.zero_le _, fun g ng => ?_⟩
    have s0 := same_upd (o := .lst []) ng
    have hl2 := hqs.1
    refine ⟨_, rfl, .ref a, rfl, a, rfl, for_seqS (xs := ws) hb s0 (fun i σ H1 => ∃ (st : Int) (ms : List V) (rs : List (Int × Int)) (y5 y6 : Option V), σ = [some (.ref a), some (.int x), some (.int y), some (.ref g), some (.int st), y5, y6] ∧ Same H H1 ∧ H1 g = some (.lst ms) ∧ Prs H1 ms rs ∧ rs.length = i ∧ rs ++ gapsF y st (qs.drop i) = gapsF y x qs)
      ⟨x, [], [], none, none, rfl, s0, upd_same, Prs.nil, rfl, rfl⟩ (fun i σ H1 hP => ?_) (fun i v σ H1 hv hP => ?_) (fun σ H1 hP => ?_)⟩
    · obtain ⟨_, _, _, _, _, rfl, sm, _⟩ := hP
      exact sm
    · obtain ⟨st, ms, rs, y5, y6, rfl, sm, eg, hms, hrl, hgf⟩ := hP
      obtain ⟨p, T, ep, rfl, eT⟩ := prs_at hqs hv
      have eT1 := sm _ _ eT
      have hi : i < qs.length := (List.getElem?_eq_some_iff.mp ep).1
      rw [drop_at ep, gapsF] at hgf
      refine ⟨T, _, rfl, .inl (.inl eT1), rfl, _, _, rfl, _, _, rfl, rfl, ?_⟩
      refine ⟨_, rfl, .inl ⟨rfl, _, SqL.of eg⟩, _, rfl, _, rfl, p.1, 1, rfl, rfl, _, rfl, p.1 - 1, y, rfl, (by show 2 ≤ sizeLine; decide), fun T2 n2 => ?_⟩
      have sT := same_upd (o := .tup [.int st, .int (mnI (p.1 - 1) y)]) n2
      refine ⟨g, _, _, rfl, rfl, sT _ _ eg, small1000 (by have := hms.1; omega), ?_⟩
      refine ⟨_, rfl, _, rfl, p.2, 1, rfl, rfl, st, p.2 + 1, rfl, mxI st (p.2 + 1), _, rs ++ [(st, mnI (p.1 - 1) y)], _, _, rfl, fun b o e => ?_, upd_same, ((hms.same sT).snoc upd_same).upd_lst (sT _ _ eg), by rw [List.length_append, hrl]; rfl, by rw [List.append_assoc]; exact hgf⟩
      rw [upd_ne (ne_of_none e ng)]
      exact sT _ _ (sm b o e)
    · obtain ⟨st, ms, rs, y5, y6, rfl, sm, eg, hms, hrl, hgf⟩ := hP
      rw [hl2, List.drop_length, gapsF] at hgf
      refine ⟨_, rfl, .inl ⟨rfl, _, SqL.of eg⟩, _, rfl, _, rfl, (by show 2 ≤ sizeLine; decide), fun T2 n2 => ?_⟩
      have sT := same_upd (o := .tup [.int st, .int y]) n2
      refine ⟨g, _, _, rfl, rfl, sT _ _ eg, small1000 (by have := hms.1; omega), ?_⟩
      have hp : Prs (upd (upd H1 T2 (.tup [.int st, .int y])) g (.lst (ms ++ [.ref T2]))) (ms ++ [.ref T2]) (gapsF y x qs) := by
        rw [← hgf]
        exact ((hms.same sT).snoc upd_same).upd_lst (sT _ _ eg)
      have s3 : Same H (upd (upd H1 T2 (.tup [.int st, .int y])) g (.lst (ms ++ [.ref T2]))) := fun b o e => by
        rw [upd_ne (ne_of_none e ng)]
        exact sT _ _ (sm b o e)
      refine ⟨_, rfl, g, _, _, rfl, Sq.list upd_same, hp, by rw [gapsF_length]; omega, fun l2 w2 rs2 H2 nl2 e2 hrs hset s2 => ?_⟩
      exact q l2 rs2 H2 (s3.free nl2) ⟨_, e2, hrs⟩ (hset.told.cong fun n => gapsF_in hr2) (by have := hset.len; rwa [gapsF_length] at this) (s3.trans s2)
end
/-! ### without -/
theorem Ris.upto : ∀ {lo n : Int} {ps : List (Int × Int)} {p : Int × Int}, Ris lo (ps ++ [p]) → InS (ps ++ [p]) n → n ≤ p.2 := by
  intro lo n ps p h e
  obtain ⟨h1, h2, h3, h4⟩ := Ris.front h
  rcases inS_append.mp e with z | z
  · obtain ⟨q, hq, z1, z2⟩ := z
    have := h2 q hq
    omega
  · rcases inS_cons.mp z with y | y
    · exact y.2
    · exact absurd y inS_nil
abbrev sWithout : Stmt := topS 16
theorem scWithout : FnScope ["one", "other"] ["one", "other"] (defScope sWithout) := ⟨rfl, rfl, rfl, by decide +kernel, rfl, by decide +kernel, by decide +kernel⟩
def spWithout (K : PySem.W.Frag) : Sp := fun vs H Q _ => ∃ (a b : Addr) (ps qs : List (Int × Int)), vs = [.ref a, .ref b] ∧ PrA K H a ps ∧ PrA K H b qs ∧ (∃ lo, Ris lo ps) ∧ (∃ lo, Ris lo qs) ∧ ps.length + qs.length ≤ 800 ∧ TellS (fun n => InS ps n ∧ ¬ InS qs n) (ps.length + qs.length + 1) H Q
section
variable {K : PySem.W.Frag} {mg : Str → Option Value} {P : Program} {w : World} {base : Heap}
theorem ok_without {f : Addr} {fd : FuncData} (F : Fun K "without" "without" sWithout f fd) (CA : Cal P w K mg base 1 "both_of" ["one", "other"] (spBoth K)) (CG : Cal P w K mg base 2 "gaps_of" ["some", "begin", "end"] (spGaps K)) : FnOk P w K mg base CX0 3 f fd ["one", "other"] (spWithout K) := by
  refine F.ok scWithout (fun vs H Q E h => ?_) (fun cdv A outer s H vs Q E hr h => ?_)
  · obtain ⟨a, b, ps, qs, rfl, _⟩ := h
    rfl
  · obtain ⟨a, b, ps, qs, rfl, ⟨us, ha, hps⟩, hb, ⟨lo, hr1⟩, hr2, hz, q⟩ := h
    have hr1' := hr.mono (show 1 ≤ 2 by decide)
    refine ⟨_, pss_cons (ps_if (pt_not (pt_truth (pv 0) (by intro _; rfl))) (pss_one (ps_ret (pe_lst pa_nil))) pss_nil)
      (pss_one (ps_ret (pe_own CA hr1' (by rfl) (pa_cons (pv 0) (pa_cons (pe_own CG hr (by rfl) (pa_cons (pv 1) (pa_cons (pe_ix ix_tup (pe_ix ix_seq (pv 0) pe_int (fun _ _ => rfl)) pe_int (fun _ _ => rfl)) (pa_cons (pe_ix ix_tup (pe_ix ix_seq (pv 0) (pe_un un_neg pe_int) (fun _ _ => rfl)) pe_int (fun _ _ => rfl)) pa_nil)))) pa_nil))))), ?_⟩
    have tru : ∀ k, k = (!us.isEmpty) → TruV K (.ref a) H k := fun k e => ha.elim (fun h => .inl ⟨us, h, e⟩) fun h => .inr (.inl ⟨us, h, e⟩)
    rcases snoc_cases ps with e0 | ⟨ps', p, e0⟩
    · have e1 : us = [] := List.eq_nil_of_length_eq_zero (by rw [hps.1, e0]; rfl)
      subst e0 e1
      refine ⟨_, rfl, false, tru _ rfl, iteT ?_⟩
      refine ⟨Nat.zero_le _, fun l nl => ?_⟩
      exact q l [] _ nl (LsA.nil upd_same) ⟨⟨0, True.intro⟩, fun n => ⟨fun z => absurd z inS_nil, fun z => z.1⟩⟩ (Nat.zero_le _) (same_upd nl)
    · subst e0
      obtain ⟨us', T0, eus, eT0, hus'⟩ := hps.last
      have hne : us.isEmpty = false := by rw [eus]; simp
      refine ⟨_, rfl, true, tru _ (by rw [hne]; rfl), iteF ?_⟩
      obtain ⟨p0, ep0⟩ : ∃ p0, (ps' ++ [p])[0]? = some p0 := by
        cases ps' with
        | nil => exact ⟨p, rfl⟩
        | cons x r => exact ⟨x, rfl⟩
      obtain ⟨T, g0, eT⟩ := hps.2 0 p0 ep0
      have glast : atI us (-1) = some (.ref T0) := by rw [eus]; exact atI_last _ _
      refine ⟨_, rfl, _, rfl, _, rfl, a, us, 0, .ref T, rfl, rfl, ha, atI_nat (j := 0) g0, T, _, 0, .int p0.1, rfl, rfl, .inl (.inl eT), atI_nat (j := 0) rfl, _, rfl, 1, rfl, a, us, -1, .ref T0, rfl, rfl, ha, glast, T0, _, 1, .int p.2, rfl, rfl, .inl (.inl eT0), atI_nat (j := 1) rfl, ?_⟩
      refine ⟨b, qs, p0.1, p.2, rfl, hb, hr2, by omega, fun l1 rs1 H1 n1 hl1 ht1 hz1 s1 => ?_⟩
      refine ⟨a, l1, ps' ++ [p], rs1, rfl, (PrA.same ⟨us, ha, hps⟩ s1), hl1.pr, ⟨lo, hr1⟩, ht1.ris, by omega, fun l2 rs2 H2 n2 hl2 ht2 hz2 s2 => ?_⟩
      refine q l2 rs2 H2 (s1.free n2) hl2 (ht2.cong fun n => ?_) (by omega) (s1.trans s2)
      rw [ht1.same n]
      constructor
      · exact fun z => ⟨z.1, z.2.2⟩
      · intro z
        refine ⟨z.1, ⟨?_, Ris.upto hr1 z.1⟩, z.2⟩
        have r0 : Ris p0.1 (ps' ++ [p]) := by
          cases ps' with
          | nil =>
            cases ep0
            exact ⟨Int.le_refl _, hr1.2⟩
          | cons x r =>
            cases ep0
            exact ⟨Int.le_refl _, hr1.2⟩
        exact r0.low z.1
end

/-! ### things as data, all of it tracked -/
inductive Dat (H : Hp) : V → PyData → Prop
  | non : Dat H .non .none
  | bl (b : Bool) : Dat H (.bl b) (.bool b)
  | int (i : Int) : Dat H (.int i) (.int i)
  | str (x : Str) : Dat H (.str x) (.str x)
  | lst {a : Addr} {xs : List V} {ds : List PyData} : H a = some (.lst xs) → xs.length = ds.length → (∀ (i : Nat) x d, xs[i]? = some x → ds[i]? = some d → Dat H x d) → Dat H (.ref a) (.list ds)
  | tup {a : Addr} {xs : List V} {ds : List PyData} : H a = some (.tup xs) → xs.length = ds.length → (∀ (i : Nat) x d, xs[i]? = some x → ds[i]? = some d → Dat H x d) → Dat H (.ref a) (.tuple ds)
theorem Dat.same {H H' : Hp} {v : V} {d : PyData} (h : Dat H v d) (s : Same H H') : Dat H' v d := by
  induction h with
  | non => exact .non
  | bl b => exact .bl b
  | int i => exact .int i
  | str x => exact .str x
  | lst e l _ ih => exact .lst (s _ _ e) l ih
  | tup e l _ ih => exact .tup (s _ _ e) l ih
/-- at most so deep, no longer than these lines -/
def Sm : Nat → PyData → Prop
  | _, .none => True
  | _, .bool _ => True
  | _, .int _ => True
  | _, .str _ => True
  | n + 1, .list ds => ds.length ≤ 900 ∧ ∀ d ∈ ds, Sm n d
  | n + 1, .tuple ds => ds.length ≤ 900 ∧ ∀ d ∈ ds, Sm n d
  | _, _ => False
/-- no list, no tuple -/
def Flat (d : PyData) : Prop := d = .none ∨ (∃ b, d = .bool b) ∨ (∃ i, d = .int i) ∨ ∃ x, d = .str x
theorem Sm.cases {n : Nat} {d : PyData} (h : Sm (n + 1) d) : Flat d ∨ (∃ ds, d = .list ds ∧ ds.length ≤ 900 ∧ ∀ d ∈ ds, Sm n d) ∨ ∃ ds, d = .tuple ds ∧ ds.length ≤ 900 ∧ ∀ d ∈ ds, Sm n d := by
  cases d <;> first | exact .inl (.inl rfl) | exact .inl (.inr (.inl ⟨_, rfl⟩)) | exact .inl (.inr (.inr (.inl ⟨_, rfl⟩))) | exact .inl (.inr (.inr (.inr ⟨_, rfl⟩))) | exact .inr (.inl ⟨_, rfl, h.1, h.2⟩) | exact .inr (.inr ⟨_, rfl, h.1, h.2⟩) | exact h.elim
theorem Sm.flat {d : PyData} (h : Sm 0 d) : Flat d := by
  cases d <;> first | exact .inl rfl | exact .inr (.inl ⟨_, rfl⟩) | exact .inr (.inr (.inl ⟨_, rfl⟩)) | exact .inr (.inr (.inr ⟨_, rfl⟩)) | exact h.elim
theorem walk_zipTs {K : PySem.W.Frag} {a b : Addr} {xs ys : List V} {n : Nat} (h1 : xs.length = n) (h2 : ys.length = n) : Walk (RZ.ItzT K a b) n (fun H => SqT K H a xs ∧ SqT K H b ys) (YPair (fun i => xs[i]?) (fun i => ys[i]?)) where
  goes := fun i _ lt q => ⟨xs, ys, _, _, q.1, q.2, List.getElem?_eq_getElem (h1.symm ▸ lt), List.getElem?_eq_getElem (h2.symm ▸ lt)⟩
  stops := fun _ q => ⟨xs, ys, q.1, q.2, .inl (Nat.le_of_eq h1)⟩
  yields := fun i _ _ _ _ q ⟨T, x, z, e1, e2, e3, e4, e5⟩ => ⟨T, x, z, e1, e2, e3, e4 xs q.1, e5 ys q.2⟩
theorem prs_dat {H : Hp} {us : List V} {ps : List (Int × Int)} (h : Prs H us ps) : ∀ (i : Nat) x d, us[i]? = some x → (ps.map pairD)[i]? = some d → Dat H x d := fun i x d e1 e2 => by
  obtain ⟨p, a, ep, rfl, ea⟩ := prs_at h e1
  rw [List.getElem?_map, ep] at e2
  have ed : pairD p = d := Option.some.inj e2
  rw [← ed]
  refine .tup ea rfl fun j y d f1 f2 => ?_
  have hj : j < 2 := (List.getElem?_eq_some_iff.mp f1).1
  have : j = 0 ∨ j = 1 := by omega
  rcases this with rfl | rfl
  · cases f1; cases f2; exact .int _
  · cases f1; cases f2; exact .int _
theorem sm_prs {ps : List (Int × Int)} (h : ps.length ≤ 900) : Sm 2 (.list (ps.map pairD)) := by
  refine ⟨by rw [List.length_map]; exact h, fun d hd => ?_⟩
  obtain ⟨p, _, rfl⟩ := List.mem_map.mp hd
  exact ⟨by show 2 ≤ 900; decide, fun d hd => by
    rcases List.mem_cons.mp hd with e | e
    · rw [e]; trivial
    · rw [List.mem_singleton.mp e]; trivial⟩
theorem ints_dat {H : Hp} {a : Addr} {ns : List Int} (e : H a = some (.lst (ns.map V.int))) : Dat H (.ref a) (.list (ns.map PyData.int)) := .lst e (by rw [List.length_map, List.length_map]) fun i x d e1 e2 => by
  rw [List.getElem?_map] at e1 e2
  cases h : ns[i]? with
  | none => rw [h] at e1; cases e1
  | some n =>
    rw [h] at e1 e2
    cases e1
    cases e2
    exact .int n
theorem sm_ints {ns : List Int} (h : ns.length ≤ 900) : Sm 1 (.list (ns.map PyData.int)) := by
  refine ⟨by rw [List.length_map]; exact h, fun d hd => ?_⟩
  obtain ⟨p, _, rfl⟩ := List.mem_map.mp hd
  trivial

def SqH (H : Hp) (a : Addr) (xs : List V) : Prop := H a = some (.lst xs) ∨ H a = some (.tup xs)

/-! ### defs that are called while nothing is being shown: str of lists within lists -/
/-- a def keeps its promise where nothing is being shown -/
structure FnG (P : Program) (w : World) (K : PySem.W.Frag) (mg : Str → Option Value) (base : Heap) (CX : CXT) (k : Nat) (f : Addr) (fd : FuncData) (ps : List Str) (sp : Sp) : Prop where
  len : ∀ (vs : List V) (H : Hp) (Q : VK) (E : XK), sp vs H Q E → vs.length = ps.length
  run : ∀ (A : Around) (outer : List Env) (s : Shared) (H : Hp) (args : Args) (us : List Value) (vs : List V) (Q : VK) (E : XK), A.guards = some [] → Room k A → Env0 P w K mg base A outer s H → BindsTo s fd args (ps.zip us) → Vals vs us → sp vs H Q E → codeAny (model P w) A (Code.call (Value.ref f) args) (CR CX outer P w H s Q E) s
section
variable {CX : CXT} {P : Program} {w : World} {K : PySem.W.Frag} {mg : Str → Option Value} {base : Heap} {k : Nat}
theorem FnG.of {f : Addr} {fd : FuncData} {ps : List Str} {sp : Sp} (F : FnOk P w K mg base CX k f fd ps sp) : FnG P w K mg base CX k f fd ps sp :=
  ⟨F.len, fun A outer s H args us vs Q E _ hr e0 hb r hsp => F.run A outer s H args us vs Q E hr e0 hb r hsp⟩
theorem fn_ofG {f : Addr} {name qual : Str} {params : Arguments} {body : List Stmt} {scope : Scope} {dV kV doc pm cdv ct oc : Value} {an od : Option Addr} {osl : Array (Option Value)} {N ps : List Str} {sp : Sp}
    (lk : List.lookup f K = some { cls := oc, dict := od, data := Data.func (PySem.W.fnOf name qual params body scope dV kV doc pm an cdv ct), slots := osl }) (hcd : PySem.W.codeIn K cdv qual = true) (S : FnScope N ps scope)
    (len : ∀ (vs : List V) (H : Hp) (Q : VK) (E : XK), sp vs H Q E → vs.length = ps.length)
    (hbody : ∀ (A : Around) (outer : List Env) (s : Shared) (H : Hp) (vs : List V) (Q : VK) (E : XK), A.guards = some [] → Room k (A.deeper (PyProof.Rows.envOfC qual scope s.heap.objs.size f cdv)) → sp vs H Q E →
      ∃ t, PSs (cxOf CX P w K mg base N qual scope f cdv A outer s H E) body t ∧ t { nx := fun _ H' => Q V.non H', rt := Q } (L2.start N vs) H) :
    FnG P w K mg base CX (k + 1) f (PySem.W.fnOf name qual params body scope dV kV doc pm an cdv ct) ps sp := by
  refine ⟨len, fun A outer s H args us vs Q E hgd hr e0 hb r hsp => ?_⟩
  have hl := len vs H Q E hsp
  have KX := PySem.W.Frag.In.keeps e0.mod.kin fun b o e => (e0.bs b o e).1
  have lim := Heap.NoLimit.keeps e0.mod.nolimit fun b o e => (e0.bs b o e).1
  refine codeAny_call_function (Room.depth hr) (KX f _ lk) rfl S.co S.gen rfl (PySem.W.codeRec_of KX hcd) (hb (model P w) A.in1 _ _ (wpAny_newFunctionEnv_cells S.kind (fun x hy => ?_) fun env he s1 x => ?_))
  · obtain ⟨n, v⟩ := x
    rcases S.par n (List.of_mem_zip hy).1 with q | q
    · exact .inl q
    · exact .inr ⟨q, PySem.W.cellsFrom_some scope.names _ [] (.inl q)⟩
  · subst he
    refine ⟨Heap.NoLimit.keeps lim x.toInCall.keep, codeAny_func ?_⟩
    obtain ⟨t, ht, hq⟩ := hbody A outer s H vs Q E hgd (Room.deeper hr _) hsp
    have I := inv_start (CX := CX) (E := E) S hr.hd e0 hl r x
    refine wpAny_mono (ht.run [] s1 (L2.start N vs) H _ I hq) (fun fl s' hs => ?_) (fun e s' hs => hs)
    cases fl with
    | ret u =>
      obtain ⟨v, σ', H', J, rv, q⟩ := hs
      exact ⟨v, H', J.os, J.bare, J.base, J.hok, rv, q⟩
    | next =>
      obtain ⟨σ', H', J, q⟩ := hs
      exact ⟨V.non, H', J.os, J.bare, J.base, J.hok, rfl, q⟩
    | _ =>
      obtain ⟨_, _, _, q⟩ := hs
      exact q.elim
theorem Fun_okG {x qual : Str} {st : Stmt} {f : Addr} {fd : FuncData} {N ps : List Str} {sp : Sp} (F : Fun K x qual st f fd) (S : FnScope N ps (defScope st))
    (len : ∀ (vs : List V) (H : Hp) (Q : VK) (E : XK), sp vs H Q E → vs.length = ps.length)
    (hbody : ∀ (cdv : Value) (A : Around) (outer : List Env) (s : Shared) (H : Hp) (vs : List V) (Q : VK) (E : XK), A.guards = some [] → Room k (A.deeper (PyProof.Rows.envOfC qual (defScope st) s.heap.objs.size f cdv)) → sp vs H Q E →
      ∃ t, PSs (cxOf CX0 P w K mg base N qual (defScope st) f cdv A outer s H E).nox (defBody st) t ∧ t { nx := fun _ H' => Q V.non H', rt := Q } (L2.start N vs) H) :
    FnG P w K mg base CX0 (k + 1) f fd ps sp := by
  obtain ⟨oc, od, kV, doc, pm, an, cdv, ct, osl, rfl, lk, hcd⟩ := F.ex
  refine fn_ofG lk hcd S len fun A outer s H vs Q E hg hr hsp => ?_
  obtain ⟨t, h, q⟩ := hbody cdv A outer s H vs Q E hg hr hsp
  exact ⟨t, PSs.nox h, q⟩
end
theorem run_fnG {X : Cx} {CX : CXT} {k : Nat} {f : Addr} {fd : FuncData} {ps : List Str} {sp : Sp} {dvs : List V} {ds : List Value} {E : XK} {pins : List (Addr × Obj)} {σ : L2.St} {H : Hp} {s : Shared} {Q : VK} {us : List Value} {vs : List V}
    (F : FnG X.prog X.w X.K X.mg X.base CX k f fd ps sp) (hgd : X.A.guards = some []) (hr : Room k X.A) (hb : Binds X.K fd ps ds) (hd : Vals dvs ds) (hx : Passes CX X E) (I : L2.Inv X pins σ H s) (r : Vals vs us) (h : sp (vs ++ dvs) H Q E) :
    wpAny (model X.prog X.w) X.A (call (Value.ref f) us) (EP X pins σ Q) X.xe s := by
  have r2 := Vals.append r hd
  have hl : (us ++ ds).length = ps.length := by rw [← Vals.length r2]; exact F.len _ _ _ _ h
  refine wpAny_call (codeAny_mono (F.run X.A X.stack s H _ _ _ Q E hgd hr (Inv.env0 I) (hb s us (Inv.kIn I) hl) r2 h) fun r s' hq => ?_)
  cases r with
  | error e => exact hx pins σ H s e s' I hq
  | ok fl =>
    cases fl with
    | ret u => exact Inv.after I hq
    | _ => exact hq.elim
/-- a def of the text that keeps a promise where nothing is being shown, as its callers see it -/
def CalG (P : Program) (w : World) (K : PySem.W.Frag) (mg : Str → Option Value) (base : Heap) (k : Nat) (x : Str) (ps : List Str) (sp : Sp) : Prop :=
  ∃ f fd, FnG P w K mg base CX0 k f fd ps sp ∧ mg x = some (.ref f) ∧ PySem.W.keepIn K (.ref f) = true ∧ Binds K fd ps []
theorem pe_ownG {X : Cx} {k : Nat} {x : Str} {ps : List Str} {sp : Sp} {e : Expr} {es : List Expr} {t : TA} {p pos : Pos} (C : CalG X.prog X.w X.K X.mg X.base k x ps sp) (hgd : X.A.guards = some []) (hr : Room k X.A) (hg : Gl X x) (ha : PA X (e :: es) t)
    (dbg : (x == ("__debug__" : Str)) = false := by decide) (one : starEach (e :: es) X.env = (false, eval e X.env) :: starEach es X.env := by rfl) (star : (backTo pos (starEach es X.env)).any (·.1) = false := by rfl) :
    PE X (.Call (.Name x p) (e :: es) [] pos) (tCall sp [] E0 t) := by
  obtain ⟨f, fd, F, hm, hk, hb⟩ := C
  refine ⟨fun pins s σ H Q I h => wpAny_Call_Name_kw (ld_glob I hg hm (PySem.W.callWith_K I.ok.mod.kin hk (thn (ha.run pos pins s σ H _ I h) fun us s1 z => ?_) one star) dbg)⟩
  obtain ⟨vs, H1, I1, r, q⟩ := z
  exact ⟨Inv.kIn I1, run_fnG F hgd hr hb .nil pass0 I1 r q⟩
/-- str of data -/
def rStrD (K : PySem.W.Frag) : List V → Hp → VK → Prop := fun xs H Q => ∃ (a : Addr) (d : PyData), xs = [.ref a] ∧ Dp K H (.ref a) d ∧ d.showable = true ∧ d.hasDict = false ∧ d.depth ≤ 8 ∧ d.shown.length ≤ sizeLine ∧ Q (.str d.shown) H
theorem cr_strD {X : Cx} (hg : X.A.guards = some []) (hu : X.A.units + 11 < cLine) : CallR X (.type "str") (rStrD X.K) := fun pins s σ H xs us Q I hv h => by
  obtain ⟨a, d, rfl, hd, h1, h2, h3, h4, q⟩ := h
  cases hv with
  | cons ru hn =>
    cases hn
    cases ru
    obtain ⟨as, hR⟩ := Dp.reads I d (.ref a) (.ref a) hd rfl
    exact str_of_reads hR h1 (fun z => by rw [h2] at z; cases z) hg (by omega) (fun b o e => e) (fun h' u tk keep => ⟨.str d.shown, H, I.kept keep, ⟨u, rfl⟩, q⟩) h4
/-! ### the end -/
theorem law_callG {P : Program} {w : World} {K : PySem.W.Frag} {mg mb : Str → Option Value} {CX : CXT} {k : Nat} {fa a : Addr} {fd : FuncData} {x : Str} {sp : Sp} {s₁ : Shared} {vs : List Value} {ns : List Int}
    (KX : K.In s₁.heap) (hns : s₁.heap.Ns mainGlobals mg) (hb : s₁.heap.Ns builtinsNs mb) (hbb : ∀ (x : Str), x ≠ Str.ofString "__name__" → mb x = bootBuiltins x) (hlim : s₁.heap.NoLimit) (hg : s₁.gens = #[])
    (ha : s₁.heap.get? a = some { cls := Value.type "list", data := Data.seq vs.toArray }) (hi : PyProof.Rows.IntsAre vs ns) (hl : ns.length ≤ sizeLine) (hr : Room k callerA)
    (F : ∀ (base : Heap), K.In base → base.Ns mainGlobals mg → FnG P w K mg base CX k fa fd [x] sp) (hbind : ∀ (s : Shared) (u : Value), BindsTo s fd { pos := [u] } [(x, u)])
    (hsp : ∀ (H : Hp), Only H → SqL K H a (List.map V.int ns) → sp [V.ref a] H (fun v _ => v = V.bl true) fun _ _ _ => False) (hCX : ∀ (H : Hp) (e : Value) (s' : Shared), CX [] H s₁ (fun _ _ _ => False) e s' → False) :
    codeAny (model P w) callerA (Code.call (Value.ref fa) { pos := [Value.ref a] }) (fun r s' => r = Except.ok (Flow.ret (Value.bool true)) ∧ OldK s₁.heap s'.heap ∧ s'.os = s₁.os ∧ PyProof.Rows.AllBare s'.gens) s₁ := by
  have rv := vals_ints hi
  have lenV := PyProof.Rows.IntsAre.length hi
  have core : ∀ H : Hp, Only H → SqL K H a (List.map V.int ns) → HOk P w H s₁.heap → (∀ b, H b ≠ none → b = a) → (H a ≠ none → List.lookup a K = none) →
      codeAny (model P w) callerA (Code.call (Value.ref fa) { pos := [Value.ref a] }) (fun r s' => r = Except.ok (Flow.ret (Value.bool true)) ∧ OldK s₁.heap s'.heap ∧ s'.os = s₁.os ∧ PyProof.Rows.AllBare s'.gens) s₁ := by
    intro H hO hS hok hA hK
    have isA : ∀ {b : Addr} {u : HO}, H b = some u → b = a := fun {b u} hh => hA b (by rw [hh]; exact fun z => nomatch z)
    have noA : ∀ {b : Addr} {o : Obj} {es ep}, s₁.heap.get? b = some o → o.data = Data.dict es ep → H b = none := by
      intro b o es ep e d
      cases hh : H b with
      | none => rfl
      | some u =>
        rw [isA hh, ha] at e
        rw [← Option.some.inj e] at d
        cases d
    have nsK : ∀ {b : Addr} {m : Str → Option Value}, s₁.heap.Ns b m → (hidT s₁.heap H).Ns b m := fun {b m} z => by
      obtain ⟨o, es, ep, e, d, r⟩ := z
      exact ⟨o, es, ep, hidT_get e (noA e d), d, r⟩
    have hKb : K.In (hidT s₁.heap H) := fun b o e => hidT_get (KX b o e) (by
      cases hh : H b with
      | none => rfl
      | some u =>
        rw [isA hh, hK (by rw [isA hh] at hh; rw [hh]; exact fun z => nomatch z)] at e
        cases e)
    have hM : L2.Mod K mg (hidT s₁.heap H) := ⟨hKb, nsK hns, ⟨mb, nsK hb, hbb⟩, let ⟨mc, h1, h2⟩ := hlim; ⟨mc, nsK h1, h2⟩⟩
    have e0 : Env0 P w K mg (hidT s₁.heap H) callerA [] s₁ H := ⟨rfl, hM, fun b o e => of_hidT e, Nat.le_of_eq (hidT_size ..), trivial, fun b hb => (nomatch hb), hok, .of_eq hg⟩
    refine codeAny_mono ((F _ hKb (nsK hns)).run callerA [] s₁ H ⟨[.ref a], []⟩ [.ref a] [.ref a] (fun v _ => v = .bl true) (fun _ _ _ => False) rfl hr e0 (hbind s₁ (.ref a)) (.cons rfl .nil) (hsp H hO hS)) fun r s' h => ?_
    cases r with
    | error e => exact (hCX H e s' h).elim
    | ok fl =>
      cases fl with
      | ret u =>
        obtain ⟨v, H', os, bare, un, hok', r', q⟩ := h
        subst q
        cases r'
        refine ⟨rfl, OldK.of_keep fun b o e => ?_, os, bare⟩
        cases hh : H b with
        | none => exact un.keep b o e hh (fun z => nomatch z) (fun z => nomatch z)
        | some u =>
          rcases hO b with z | ⟨ob, xs, z⟩
          · rw [z] at hh; cases hh
          · have z2 := un.frzs b ob (HO.lst xs) z
            have e1 := (hok b _ z).1
            have e2 := (hok' b _ z2).1
            rw [e] at e1
            rw [Option.some.inj e1]
            exact e2
      | _ => exact h.elim
  cases hk : List.lookup a K with
  | none =>
    have at_a : (fun b => if b = a then some (HO.frz { cls := Value.type "list", data := Data.seq vs.toArray } (HO.lst (List.map V.int ns))) else none : Hp) a = some (HO.frz { cls := Value.type "list", data := Data.seq vs.toArray } (HO.lst (List.map V.int ns))) := if_pos rfl
    refine core (fun b => if b = a then some (HO.frz { cls := Value.type "list", data := Data.seq vs.toArray } (HO.lst (List.map V.int ns))) else none) (fun b => ?_) (.inl (.inr ⟨_, at_a⟩)) (fun b u z => ?_) (fun b z => ?_) (fun _ => hk)
    · by_cases hb : b = a
      · exact .inr ⟨_, _, if_pos hb⟩
      · exact .inl (if_neg hb)
    · by_cases hb : b = a
      · have z' := Eq.trans (Eq.symm (if_pos hb)) z
        cases z'
        subst hb
        exact ⟨ha, by rw [List.length_map]; exact hl, vs, 0, rv, ha⟩
      · have z' := Eq.trans (Eq.symm (if_neg hb)) z
        cases z'
    · by_cases hb : b = a
      · exact hb
      · exact absurd (if_neg hb) z
  | some o =>
    have e := KX a o hk
    rw [ha] at e
    cases e
    exact core (fun _ => none) (fun _ => .inl rfl) (.inr ⟨_, vs.toArray, 0, hk, rfl, rfl, rfl, by rw [List.size_toArray, lenV]; exact hl, rv⟩) (fun b u z => nomatch z) (fun b z => absurd rfl z) (fun z => absurd rfl z)
def LawAtG (l : PySem.W.OpenLaw) (w : World) (K : PySem.W.Frag) (k : Nat) (mg : Str → Option Value) (fa : Addr) : Prop :=
  ∃ (fd : FuncData) (sp : Sp), (∀ (s : Shared) (u : Value), BindsTo s fd { pos := [u] } [("_law_script", u)]) ∧ (∀ (H : Hp) (a : Addr) (ns : List Int), ns.length ≤ 63 → SqL K H a (List.map V.int ns) → sp [V.ref a] H (fun v _ => v = V.bl true) fun _ _ _ => False) ∧
    ∀ (base : Heap), K.In base → base.Ns mainGlobals mg → FnG l.prog w K mg base CX0 k fa fd ["_law_script"] sp
theorem law_endG {l : PySem.W.OpenLaw} {k : Nat} {q : Program} {loose : List Str} {XP : (Str → Option Value) → Heap → Prop} {YP : World → Heap → Prop} {d : DefRec} {K : Params → PySem.W.Frag} (most : l.most = some 63) (plain : d.params.defaults = []) (room : Room k callerA)
    (part : ∀ w h, YP w h → (K w.params).In h) (made : ∀ (w : World) (mg : Str → Option Value) (f : Addr) (h : Heap), (K w.params).In h → h.Ns mainGlobals mg → mg d.name = some (.ref f) → LawAtG l w (K w.params) k mg f) : PySem.W.WalkO q loose XP YP l.row.toRowW d [] (fun f vs => PySem.call f vs) := by
  refine Att.attach_callB most plain ?_
  intro w _ s₁ mg _ f _ _ _ _ a vs ns ground said _ _ _ name script nums len size still
  have X := part w _ said
  obtain ⟨fd, sp, e4, e5, e6⟩ := made w mg f _ X ground.T.g name
  exact law_callG X ground.T.g ground.T.b ground.T.builtins ground.T.nolimit still script nums (Nat.le_trans len (by decide)) room e6 e4 (fun H z1 z2 => e5 H a ns len z2) fun _ _ _ z => z

/-- an expression, then a word of what it gives: what follows is shown once -/
def tMid (te : TE) : TE := fun σ H Q => ∃ M : V → Hp → Prop, te σ H M ∧ ∀ v H', M v H' → Q v H'
theorem pe_mid {X : Cx} {e : Expr} {te : TE} (h : PE X e te) : PE X e (tMid te) := ⟨fun pins s σ H Q I ⟨M, h1, h2⟩ => thn (h.run pins s σ H M I h1) fun _ _ ⟨y, H1, I1, r, q⟩ => ⟨y, H1, I1, r, h2 _ _ q⟩⟩

/-! ### things as data; of the lists among them this holds -/
inductive DatN (N : Addr → Prop) (H : Hp) : V → PyData → Prop
  | non : DatN N H .non .none
  | bl (b : Bool) : DatN N H (.bl b) (.bool b)
  | int (i : Int) : DatN N H (.int i) (.int i)
  | str (x : Str) : DatN N H (.str x) (.str x)
  | lst {a : Addr} {xs : List V} {ds : List PyData} : N a → H a = some (.lst xs) → xs.length = ds.length → (∀ (i : Nat) x d, xs[i]? = some x → ds[i]? = some d → DatN N H x d) → DatN N H (.ref a) (.list ds)
  | tup {a : Addr} {xs : List V} {ds : List PyData} : H a = some (.tup xs) → xs.length = ds.length → (∀ (i : Nat) x d, xs[i]? = some x → ds[i]? = some d → DatN N H x d) → DatN N H (.ref a) (.tuple ds)
/-- tuples stay, and the lists of which this holds -/
structure Kps (N : Addr → Prop) (H H' : Hp) : Prop where
  tup : ∀ a xs, H a = some (.tup xs) → H' a = some (.tup xs)
  lst : ∀ a xs, N a → H a = some (.lst xs) → H' a = some (.lst xs)
theorem Kps.same {N : Addr → Prop} {H H' : Hp} (s : Same H H') : Kps N H H' := ⟨fun a xs e => s a _ e, fun a xs _ e => s a _ e⟩
theorem Kps.kp {N : Addr → Prop} {H H' : Hp} {d c : Addr} {t : Int} (k : Kp d c H H') (S : StAt H d c t) (hN : ∀ a, N a → a ≠ c) : Kps N H H' :=
  ⟨fun a xs e => k.tup S e, fun a xs n e => k a _ (fun z => by rw [z, S.dict] at e; cases e) (hN a n) e⟩
theorem Kps.upd {N : Addr → Prop} {H : Hp} {D : Addr} {ys : List V} {o : HO} (e : H D = some (.lst ys)) (hN : ∀ a, N a → a ≠ D) : Kps N H (upd H D o) :=
  ⟨fun a xs f => by rw [upd_ne (ne_of f e (fun z => nomatch z))]; exact f, fun a xs n f => by rw [upd_ne (hN a n)]; exact f⟩
theorem Kps.upd_dK {N : Addr → Prop} {H : Hp} {D : Addr} {ks : List (Key × V)} {o : HO} (e : H D = some (.dK ks)) : Kps N H (L2.upd H D o) :=
  ⟨fun a xs f => by rw [upd_ne (ne_of f e (fun z => nomatch z))]; exact f, fun a xs n f => by rw [upd_ne (ne_of f e (fun z => nomatch z))]; exact f⟩
theorem Kps.trans {N : Addr → Prop} {H H1 H2 : Hp} (a : Kps N H H1) (b : Kps N H1 H2) : Kps N H H2 := ⟨fun x xs e => b.tup x xs (a.tup x xs e), fun x xs n e => b.lst x xs n (a.lst x xs n e)⟩
theorem DatN.keep {N : Addr → Prop} {H H' : Hp} {v : V} {d : PyData} (h : DatN N H v d) (k : Kps N H H') : DatN N H' v d := by
  induction h with
  | non => exact .non
  | bl b => exact .bl b
  | int i => exact .int i
  | str x => exact .str x
  | lst n e l _ ih => exact .lst n (k.lst _ _ n e) l ih
  | tup e l _ ih => exact .tup (k.tup _ _ e) l ih
theorem DatN.same {N : Addr → Prop} {H H' : Hp} {v : V} {d : PyData} (h : DatN N H v d) (s : Same H H') : DatN N H' v d := h.keep (.same s)
theorem DatN.weak {N N' : Addr → Prop} {H : Hp} {v : V} {d : PyData} (h : DatN N H v d) (w : ∀ a xs, N a → H a = some (.lst xs) → N' a) : DatN N' H v d := by
  induction h with
  | non => exact .non
  | bl b => exact .bl b
  | int i => exact .int i
  | str x => exact .str x
  | lst n e l _ ih => exact .lst (w _ _ n e) e l ih
  | tup e l _ ih => exact .tup e l ih
theorem DatN.dat {N : Addr → Prop} {H : Hp} {v : V} {d : PyData} (h : DatN N H v d) : Dat H v d := by
  induction h with
  | non => exact .non
  | bl b => exact .bl b
  | int i => exact .int i
  | str x => exact .str x
  | lst n e l _ ih => exact .lst e l ih
  | tup e l _ ih => exact .tup e l ih
theorem dpAll_of {K : PySem.W.Frag} {H : Hp} : ∀ {xs : List V} {ds : List PyData}, xs.length = ds.length → (∀ (i : Nat) x d, xs[i]? = some x → ds[i]? = some d → Dp K H x d) → DpAll K H xs ds
  | [], [], _, _ => .nil
  | [], _ :: _, e, _ => nomatch e
  | _ :: _, [], e, _ => nomatch e
  | x :: xs, d :: ds, e, h => .cons (h 0 x d rfl rfl) (dpAll_of (Nat.succ.inj e) fun i y c e1 e2 => h (i + 1) y c e1 e2)
theorem DatN.dp {K : PySem.W.Frag} {N : Addr → Prop} {H : Hp} {v : V} {d : PyData} (h : DatN N H v d) : Dp K H v d := by
  induction h with
  | non => exact .non
  | bl b => exact .bl b
  | int i => exact .int i
  | str x => exact .str x
  | lst n e l _ ih => exact .lst (SqL.of e) (dpAll_of l ih)
  | tup e l _ ih => exact .tup (.inl (.inl e)) (dpAll_of l ih)
/-- things one by one as data -/
def EchN (N : Addr → Prop) (H : Hp) (xs : List V) (ds : List PyData) : Prop := xs.length = ds.length ∧ ∀ (i : Nat) x d, xs[i]? = some x → ds[i]? = some d → DatN N H x d
theorem EchN.keep {N : Addr → Prop} {H H' : Hp} {xs : List V} {ds : List PyData} (h : EchN N H xs ds) (k : Kps N H H') : EchN N H' xs ds := ⟨h.1, fun i x d e1 e2 => (h.2 i x d e1 e2).keep k⟩
theorem EchN.same {N : Addr → Prop} {H H' : Hp} {xs : List V} {ds : List PyData} (h : EchN N H xs ds) (s : Same H H') : EchN N H' xs ds := h.keep (.same s)
theorem EchN.weak {N N' : Addr → Prop} {H : Hp} {xs : List V} {ds : List PyData} (h : EchN N H xs ds) (w : ∀ a xs, N a → H a = some (.lst xs) → N' a) : EchN N' H xs ds := ⟨h.1, fun i x d e1 e2 => (h.2 i x d e1 e2).weak w⟩
theorem EchN.nil {N : Addr → Prop} {H : Hp} : EchN N H [] [] := ⟨rfl, fun _ _ _ e => nomatch e⟩
theorem EchN.cons {N : Addr → Prop} {H : Hp} {x : V} {d : PyData} {xs : List V} {ds : List PyData} (h : DatN N H x d) (hr : EchN N H xs ds) : EchN N H (x :: xs) (d :: ds) :=
  ⟨congrArg (· + 1) hr.1, fun i y e e1 e2 => by
    cases i with
    | zero => cases e1; cases e2; exact h
    | succ i => exact hr.2 i y e e1 e2⟩
theorem EchN.one {N : Addr → Prop} {H : Hp} {x : V} {d : PyData} (h : DatN N H x d) : EchN N H [x] [d] := .cons h .nil
theorem getElem?_two {α β : Type} {xs ys : List α} {us ws : List β} (l : xs.length = us.length) {i : Nat} {x : α} {u : β} (e1 : (xs ++ ys)[i]? = some x) (e2 : (us ++ ws)[i]? = some u) : (xs[i]? = some x ∧ us[i]? = some u) ∨ (ys[i - xs.length]? = some x ∧ ws[i - xs.length]? = some u) := by
  by_cases hi : i < xs.length
  · rw [List.getElem?_append_left hi] at e1
    rw [List.getElem?_append_left (by omega)] at e2
    exact .inl ⟨e1, e2⟩
  · rw [List.getElem?_append_right (by omega)] at e1 e2
    rw [← l] at e2
    exact .inr ⟨e1, e2⟩
theorem EchN.app {N : Addr → Prop} {H : Hp} {xs ys : List V} {ds es : List PyData} (h : EchN N H xs ds) (h' : EchN N H ys es) : EchN N H (xs ++ ys) (ds ++ es) :=
  ⟨by rw [List.length_append, List.length_append, h.1, h'.1], fun i v p e1 e2 => (getElem?_two h.1 e1 e2).elim (fun z => h.2 i v p z.1 z.2) (fun z => h'.2 _ v p z.1 z.2)⟩
theorem EchN.snoc {N : Addr → Prop} {H : Hp} {xs : List V} {ds : List PyData} {x : V} {d : PyData} (h : EchN N H xs ds) (h' : DatN N H x d) : EchN N H (xs ++ [x]) (ds ++ [d]) := h.app (.one h')
theorem EchN.at {N : Addr → Prop} {H : Hp} {xs : List V} {ds : List PyData} {i : Nat} {x : V} (h : EchN N H xs ds) (e : xs[i]? = some x) : ∃ d, ds[i]? = some d ∧ DatN N H x d := by
  have hi : i < ds.length := by rw [← h.1]; exact (List.getElem?_eq_some_iff.mp e).1
  exact ⟨_, List.getElem?_eq_getElem hi, h.2 i x _ e (List.getElem?_eq_getElem hi)⟩
theorem EchN.atM {α : Type} {N : Addr → Prop} {H : Hp} {xs : List V} {f : α → PyData} {ys : List α} {i : Nat} {x : V} (h : EchN N H xs (ys.map f)) (e : xs[i]? = some x) : ∃ y, ys[i]? = some y ∧ DatN N H x (f y) := by
  obtain ⟨d, e1, e2⟩ := h.at e
  rw [List.getElem?_map] at e1
  cases h : ys[i]? with
  | none => rw [h] at e1; cases e1
  | some y => rw [h] at e1; cases e1; exact ⟨y, rfl, e2⟩
theorem DatN.list {N : Addr → Prop} {H : Hp} {v : V} {ds : List PyData} (h : DatN N H v (.list ds)) : ∃ a xs, v = .ref a ∧ N a ∧ H a = some (.lst xs) ∧ EchN N H xs ds := by
  cases h with
  | lst n e l r => exact ⟨_, _, rfl, n, e, l, r⟩
theorem DatN.tuple {N : Addr → Prop} {H : Hp} {v : V} {ds : List PyData} (h : DatN N H v (.tuple ds)) : ∃ a xs, v = .ref a ∧ H a = some (.tup xs) ∧ EchN N H xs ds := by
  cases h with
  | tup e l r => exact ⟨_, _, rfl, e, l, r⟩
theorem EchN.lst {N : Addr → Prop} {H : Hp} {a : Addr} {xs : List V} {ds : List PyData} (h : EchN N H xs ds) (n : N a) (e : H a = some (.lst xs)) : DatN N H (.ref a) (.list ds) := .lst n e h.1 h.2
theorem EchN.tup {N : Addr → Prop} {H : Hp} {a : Addr} {xs : List V} {ds : List PyData} (h : EchN N H xs ds) (e : H a = some (.tup xs)) : DatN N H (.ref a) (.tuple ds) := .tup e h.1 h.2
theorem EchN.inv {N : Addr → Prop} {H : Hp} {xs : List V} {d : PyData} {ds : List PyData} (h : EchN N H xs (d :: ds)) : ∃ x xs', xs = x :: xs' ∧ DatN N H x d ∧ EchN N H xs' ds := by
  cases xs with
  | nil => exact nomatch h.1
  | cons x xs => exact ⟨x, xs, rfl, h.2 0 x d rfl rfl, Nat.succ.inj h.1, fun i y e e1 e2 => h.2 (i + 1) y e e1 e2⟩
theorem EchN.inv0 {N : Addr → Prop} {H : Hp} {xs : List V} (h : EchN N H xs []) : xs = [] := List.eq_nil_of_length_eq_zero h.1
theorem DatN.inv_int {N : Addr → Prop} {H : Hp} {v : V} {i : Int} (h : DatN N H v (.int i)) : v = .int i := by cases h; rfl
theorem DatN.inv_str {N : Addr → Prop} {H : Hp} {v : V} {x : Str} (h : DatN N H v (.str x)) : v = .str x := by cases h; rfl
theorem DatN.inv_non {N : Addr → Prop} {H : Hp} {v : V} (h : DatN N H v .none) : v = .non := by cases h; rfl
theorem DatN.inv_bl {N : Addr → Prop} {H : Hp} {v : V} {b : Bool} (h : DatN N H v (.bool b)) : v = .bl b := by cases h; rfl
theorem echN_ints {N : Addr → Prop} {H : Hp} (ns : List Int) : EchN N H (ns.map V.int) (ns.map PyData.int) := ⟨by rw [List.length_map, List.length_map], fun i x d e1 e2 => by
  rw [List.getElem?_map] at e1 e2
  cases h : ns[i]? with
  | none => rw [h] at e1; cases e1
  | some n =>
    rw [h] at e1 e2
    cases e1
    cases e2
    exact .int n⟩
theorem echN_strs {N : Addr → Prop} {H : Hp} (ns : List Str) : EchN N H (ns.map V.str) (ns.map PyData.str) := ⟨by rw [List.length_map, List.length_map], fun i x d e1 e2 => by
  rw [List.getElem?_map] at e1 e2
  cases h : ns[i]? with
  | none => rw [h] at e1; cases e1
  | some n =>
    rw [h] at e1 e2
    cases e1
    cases e2
    exact .str n⟩
theorem EchN.ints {N : Addr → Prop} {H : Hp} : ∀ {xs : List V} {ns : List Int}, EchN N H xs (ns.map PyData.int) → xs = ns.map V.int
  | _, [], h => h.inv0
  | _, n :: r, h => by
    obtain ⟨x, xs', rfl, h1, h2⟩ := EchN.inv h
    rw [h1.inv_int, EchN.ints h2]
    rfl
theorem EchN.strs {N : Addr → Prop} {H : Hp} : ∀ {xs : List V} {ns : List Str}, EchN N H xs (ns.map PyData.str) → xs = ns.map V.str
  | _, [], h => h.inv0
  | _, n :: r, h => by
    obtain ⟨x, xs', rfl, h1, h2⟩ := EchN.inv h
    rw [h1.inv_str, EchN.strs h2]
    rfl
/-- pairs of whole numbers -/
theorem _root_.GP.Prs.ech {N : Addr → Prop} {H : Hp} {us : List V} {ps : List (Int × Int)} (h : Prs H us ps) : EchN N H us (ps.map pairD) := ⟨by rw [List.length_map]; exact h.1, fun i x d e1 e2 => by
  obtain ⟨p, a, ep, rfl, ea⟩ := prs_at h e1
  rw [List.getElem?_map, ep] at e2
  cases e2
  exact EchN.tup (.cons (.int _) (.one (.int _))) ea⟩
theorem EchN.prs {N : Addr → Prop} {H : Hp} {us : List V} {ps : List (Int × Int)} (h : EchN N H us (ps.map pairD)) : Prs H us ps := ⟨by have := h.1; rwa [List.length_map] at this, fun i p ep => by
  have hi : i < us.length := by
    rw [h.1, List.length_map]
    exact (List.getElem?_eq_some_iff.mp ep).1
  obtain ⟨y, e1, e2⟩ := h.atM (List.getElem?_eq_getElem hi)
  rw [ep] at e1
  cases e1
  obtain ⟨a, xs, ev, ea, r⟩ := e2.tuple
  obtain ⟨x1, r1, rfl, d1, r2⟩ := r.inv
  obtain ⟨x2, r3, rfl, d2, r4⟩ := r2.inv
  rw [r4.inv0, d1.inv_int, d2.inv_int] at ea
  exact ⟨a, by rw [List.getElem?_eq_getElem hi, ev], ea⟩⟩
/-- new since then -/
abbrev NewIn (H : Hp) : Addr → Prop := fun a => H a = none
def setD (ps : List (Int × Int)) : PyData := .list (ps.map pairD)
/-! ### what can be shown -/
structure Shw (n w : Nat) (d : PyData) : Prop where
  sh : d.showable = true
  nd : d.hasDict = false
  dp : d.depth ≤ n
  ls : d.leavesShort 40 = true
  wt : d.weight ≤ w
theorem Shw.mono {n w n' w' : Nat} {d : PyData} (h : Shw n w d) (h1 : n ≤ n') (h2 : w ≤ w') : Shw n' w' d := ⟨h.sh, h.nd, Nat.le_trans h.dp h1, h.ls, Nat.le_trans h.wt h2⟩
theorem Shw.int {n : Nat} {i : Int} (h : i.natAbs < 10 ^ 39) : Shw n 131 (.int i) := by
  refine ⟨?_, by rw [PyData.hasDict], by rw [PyData.depth]; omega, ?_, ?_⟩
  · rw [PyData.showable]
    by_cases z : i.natAbs = 0
    · rw [z]; decide
    · exact decide_eq_true (Nat.lt_trans ((Nat.log2_lt (k := 130) z).mpr (Nat.lt_trans h (by decide))) (by decide))
  · rw [PyData.leavesShort]
    have e := int_text_length_le10 (k := 39) (by decide) h
    refine decide_eq_true ?_
    show (Str.ofString (toString i)).length ≤ 40
    rw [PySem.ofString_length]
    exact e
  · rw [PyData.weight]
    split
    · omega
    · by_cases z : i.natAbs = 0
      · rw [z]; decide
      · have : i.natAbs.log2 < 130 := (Nat.log2_lt z).mpr (Nat.lt_trans h (by decide))
        omega
theorem Shw.str {n w : Nat} {x : Str} (h : PyData.strOk x = true) (hl : x.length ≤ w) : Shw n w (.str x) := by
  refine ⟨by rw [PyData.showable], by rw [PyData.hasDict], by rw [PyData.depth]; omega, ?_, by rw [PyData.weight]; exact hl⟩
  rw [PyData.leavesShort, List.all_eq_true]
  intro c hc
  have h' : x.cps.all (· < 0x110000) = true := h
  rw [Array.all_eq_true'] at h'
  have := of_decide_eq_true (h' c (by simpa using hc))
  exact decide_eq_true (Nat.lt_trans this (by decide))
theorem Shw.none {n w : Nat} : Shw n w .none := ⟨by rw [PyData.showable], by rw [PyData.hasDict], by rw [PyData.depth]; omega, by rw [PyData.leavesShort], by rw [PyData.weight]; omega⟩
theorem Shw.bool {n w : Nat} {b : Bool} : Shw n w (.bool b) := ⟨by rw [PyData.showable], by rw [PyData.hasDict], by rw [PyData.depth]; omega, by rw [PyData.leavesShort], by rw [PyData.weight]; omega⟩
theorem shwAll : ∀ {n w : Nat} {ds : List PyData}, (∀ d ∈ ds, Shw n w d) → PyData.showableAll ds = true ∧ PyData.hasDictAll ds = false ∧ PyData.depthAll ds ≤ n ∧ PyData.leavesShortAll 40 ds = true ∧ PyData.weightAll ds ≤ ds.length * (w + 1)
  | n, w, [], _ => by simp [PyData.leavesShortAll, PyData.weightAll, PyData.showableAll, PyData.hasDictAll, PyData.depthAll]
  | n, w, d :: r, h => by
    obtain ⟨g1, g2, g3, g4, g5⟩ := shwAll (ds := r) fun q hq => h q (List.mem_cons_of_mem _ hq)
    obtain ⟨h1, h2, h3, h4, h5⟩ := h d (List.mem_cons_self ..)
    refine ⟨by rw [PyData.showableAll, h1, g1]; rfl, by rw [PyData.hasDictAll, h2, g2]; rfl, by rw [PyData.depthAll]; omega, by rw [PyData.leavesShortAll, h4, g4]; rfl, ?_⟩
    rw [PyData.weightAll, List.length_cons, Nat.succ_mul]
    omega
theorem Shw.list {n w m W : Nat} {ds : List PyData} (h : ∀ d ∈ ds, Shw n w d) (hl : ds.length ≤ m) (hW : m * (w + 1) ≤ W) : Shw (n + 1) W (.list ds) := by
  obtain ⟨g1, g2, g3, g4, g5⟩ := shwAll h
  have := Nat.mul_le_mul_right (w + 1) hl
  exact ⟨by rw [PyData.showable]; exact g1, by rw [PyData.hasDict]; exact g2, by rw [PyData.depth]; omega, by rw [PyData.leavesShort]; exact g4, by rw [PyData.weight]; omega⟩
theorem Shw.tuple {n w m W : Nat} {ds : List PyData} (h : ∀ d ∈ ds, Shw n w d) (hl : ds.length ≤ m) (hW : m * (w + 1) ≤ W) : Shw (n + 1) W (.tuple ds) := by
  obtain ⟨g1, g2, g3, g4, g5⟩ := shwAll h
  have := Nat.mul_le_mul_right (w + 1) hl
  exact ⟨by rw [PyData.showable]; exact g1, by rw [PyData.hasDict]; exact g2, by rw [PyData.depth]; omega, by rw [PyData.leavesShort]; exact g4, by rw [PyData.weight]; omega⟩
theorem Shw.listM {α : Type} {n w m W : Nat} {f : α → PyData} {ys : List α} (h : ∀ y ∈ ys, Shw n w (f y)) (hl : ys.length ≤ m) (hW : m * (w + 1) ≤ W) : Shw (n + 1) W (.list (ys.map f)) :=
  .list (fun d hd => by obtain ⟨y, hy, rfl⟩ := List.mem_map.mp hd; exact h y hy) (by rw [List.length_map]; exact hl) hW
theorem all2 {α : Type} {P : α → Prop} {x y : α} (h1 : P x) (h2 : P y) : ∀ z ∈ [x, y], P z := fun z hz => by
  rcases List.mem_cons.mp hz with e | e
  · rw [e]; exact h1
  · rw [List.mem_singleton.mp e]; exact h2
theorem all3 {α : Type} {P : α → Prop} {x y u : α} (h1 : P x) (h2 : P y) (h3 : P u) : ∀ z ∈ [x, y, u], P z := fun z hz => by
  rcases List.mem_cons.mp hz with e | e
  · rw [e]; exact h1
  · exact all2 h2 h3 z e
theorem Shw.shown {w : Nat} {d : PyData} (h : Shw 8 w d) (hw : w ≤ 390000) : d.showable = true ∧ d.hasDict = false ∧ d.depth ≤ 8 ∧ d.shown.length ≤ sizeLine :=
  ⟨h.sh, h.nd, h.dp, by
    have z := PyData.shown_le 40 (by decide) d h.ls
    have := h.wt
    exact Nat.le_trans z (Nat.le_trans (show (40 + 2) * d.weight + 40 ≤ 16380040 by omega) (by decide))⟩

/-! ### comprehensions, by what they make -/
/-- a thing's truth, as a test -/
def tTru (K : PySem.W.Frag) (te : TE) : TT := fun σ H Q => te σ H fun x H' => ∃ k, TruV K x H' k ∧ Q k H'
abbrev LcW (J : It) (g : TG) (tt : TT) (te : TE) (vs : List Nat) (σ : L2.St) (D : Addr) (Qd : Hp → Prop) (H1 : Hp) : Prop := ∃ W : Nat → Nat → Hp → Prop, (∃ m, W 0 m (upd H1 D (.lst []))) ∧ ∀ i m H, W i m H →
  (J.stop i H ∧ Qd H) ∨ (J.go i H ∧ ∃ Nx : Hp → Prop, (∀ H', Nx H' → ∃ m', m' < m ∧ W (i + 1) m' H') ∧ ∀ x H', J.yld i H x H' → g x (wipe σ vs) H' fun σ2 H2 => wipe σ2 vs = wipe σ vs ∧ tt σ2 H2 fun b H3 => if b = true then
    te σ2 H3 fun y H4 => ∃ acc, H4 D = some (.lst acc) ∧ acc.length < sizeLine ∧ Nx (upd H4 D (.lst (acc ++ [y]))) else Nx H3)
/-- each item makes something new, all else stays -/
theorem lc_new {J : It} {n : Nat} {G : Hp → Prop} {Y : Nat → Hp → V → Hp → Prop} (w : Walk J n G Y) {g : TG} {tt : TT} {te : TE} {vs : List Nat} {σ : L2.St} {H1 : Hp} {D : Addr} {Qd : Hp → Prop} (ds : List PyData) (nD : H1 D = none) (hn : ds.length = n) (hz : n ≤ 1000) (hG : ∀ H, Same H1 H → G H)
    (turn : ∀ i x d H H' (Kt : V → Hp → Prop) (Kn : Hp → Prop), ds[i]? = some d → Same H1 H → Y i H x H' → (∀ y H4, Same H H4 → DatN (NewIn H) H4 y d → Kt y H4) → g x (wipe σ vs) H' fun σ2 H2 => wipe σ2 vs = wipe σ vs ∧ tt σ2 H2 fun b H3 => if b = true then te σ2 H3 Kt else Kn H3)
    (fin : ∀ H, Same H1 H → DatN (NewIn H1) H (.ref D) (.list ds) → Qd H) : LcW J g tt te vs σ D Qd H1 := by
  refine lc_it w (fun j H => Same H1 H ∧ ∃ ws, H D = some (.lst ws) ∧ EchN (fun a => H1 a = none ∧ a ≠ D) H ws (ds.take j)) ⟨same_upd nD, [], upd_same, .nil⟩ (fun i H _ p => hG H p.1) (fun i x H H' hi hP hy => ?_) (fun H hP => ?_)
  · obtain ⟨sm, ws, eD, hws⟩ := hP
    have hd : ds[i]? = some ds[i] := List.getElem?_eq_getElem (by omega)
    refine turn i x _ H H' _ _ hd sm hy fun y H4 s4 hd4 => ?_
    have eD4 := s4 _ _ eD
    have hl : ws.length ≤ 1000 := by
      rw [hws.1, List.length_take]
      omega
    have hl' : ws.length < 1000 := by
      rw [hws.1, List.length_take]
      omega
    refine ⟨ws, eD4, Nat.lt_of_lt_of_le hl' (by decide), fun b o e => ?_, ws ++ [y], upd_same, ?_⟩
    · rw [upd_ne (ne_of_none e nD)]
      exact s4 _ _ (sm b o e)
    · rw [List.take_add_one, hd]
      have k : Kps (fun a => H1 a = none ∧ a ≠ D) H4 (upd H4 D (.lst (ws ++ [y]))) := .upd eD4 fun a z => z.2
      refine ((hws.same s4).keep k).snoc (DatN.keep (hd4.weak fun a xs (z : H a = none) e => ⟨sm.free z, fun q => ?_⟩) k)
      rw [q, eD] at z
      cases z
  · obtain ⟨sm, ws, eD, hws⟩ := hP
    rw [List.take_of_length_le (by omega)] at hws
    exact fin H sm ((hws.weak fun a _ z _ => z.1).lst nD eD)
/-- each item makes something new by draws -/
theorem lc_draw {α : Type} (f : α → PyData) (R : Nat → α → Prop) (T : Int) {J : It} {n : Nat} {G : Hp → Prop} {Y : Nat → Hp → V → Hp → Prop} (w : Walk J n G Y) {g : TG} {tt : TT} {te : TE} {vs : List Nat} {σ : L2.St} {H1 : Hp} {D d c : Addr} {t1 : Int} {Qd : Hp → Prop} (S1 : StAt H1 d c t1) (nD : H1 D = none) (hz : n ≤ 1000) (hG : ∀ H, Kp d c H1 H → G H)
    (turn : ∀ i x H H' t (Kt : V → Hp → Prop) (Kn : Hp → Prop), i < n → t1 ≤ t → t ≤ t1 + T * (i : Int) → StAt H d c t → Kp d c H1 H → Y i H x H' → (∀ z y t' H4, R i z → DatN (NewIn H) H4 y (f z) → t ≤ t' → t' ≤ t + T → StAt H4 d c t' → Kp d c H H4 → Kt y H4) →
      g x (wipe σ vs) H' fun σ2 H2 => wipe σ2 vs = wipe σ vs ∧ tt σ2 H2 fun b H3 => if b = true then te σ2 H3 Kt else Kn H3)
    (fin : ∀ (H : Hp) (t : Int) (zs : List α), zs.length = n → (∀ (i : Nat) z, zs[i]? = some z → R i z) → t1 ≤ t → t ≤ t1 + T * (n : Int) → StAt H d c t → Kp d c H1 H → DatN (NewIn H1) H (.ref D) (.list (zs.map f)) → Qd H) : LcW J g tt te vs σ D Qd H1 := by
  have off := S1.off nD
  refine lc_it w (fun j H => ∃ (t : Int) (ws : List V) (zs : List α), H D = some (.lst ws) ∧ EchN (fun a => H1 a = none ∧ a ≠ D) H ws (zs.map f) ∧ zs.length = j ∧ (∀ (i : Nat) z, zs[i]? = some z → R i z) ∧ t1 ≤ t ∧ t ≤ t1 + T * (j : Int) ∧ StAt H d c t ∧ Kp d c H1 H)
    ⟨t1, [], [], upd_same, .nil, rfl, (fun _ _ e => nomatch e), Int.le_refl _, by omega, S1.same (same_upd nD), Kp.same d c (same_upd nD)⟩ (fun i H _ hP => ?_) (fun i x H H' hi hP hy => ?_) (fun H hP => ?_)
  · obtain ⟨_, _, _, _, _, _, _, _, _, _, k⟩ := hP
    exact hG H k
  · obtain ⟨t, ws, zs, eD, hws, hzl, hR, t0, t2, hS, k⟩ := hP
    refine turn i x H H' t _ _ hi t0 t2 hS k hy fun z y t' H4 hz' hd4 u0 u1 hS4 k4 => ?_
    have eD4 := k4 _ _ off.1 off.2 eD
    have hwl : ws.length = i := by rw [hws.1, List.length_map, hzl]
    have kk : Kps (fun a => H1 a = none ∧ a ≠ D) H4 (upd H4 D (.lst (ws ++ [y]))) := .upd eD4 fun a z => z.2
    have k1 : Kps (fun a => H1 a = none ∧ a ≠ D) H H4 := .kp k4 hS fun a z q => by
      obtain ⟨cs, ec, _⟩ := S1.cells
      rw [q, ec] at z
      exact nomatch z.1
    refine ⟨ws, eD4, Nat.lt_of_lt_of_le (show ws.length < 1000 by omega) (by decide), t', ws ++ [y], zs ++ [z], upd_same, ?_, by rw [List.length_append, hzl]; rfl, fun j q e => ?_, by omega, ?_, hS4.upd off.1 off.2, fun b o b1 b2 e => ?_⟩
    · rw [List.map_append]
      refine ((hws.keep k1).keep kk).snoc (DatN.keep (hd4.weak fun a xs (z : H a = none) e => ⟨?_, fun q => ?_⟩) kk)
      · cases e1 : H1 a with
        | none => rfl
        | some o =>
          by_cases z1 : a = d
          · rw [z1, hS.dict] at z; cases z
          · by_cases z2 : a = c
            · obtain ⟨cs, ec, _⟩ := hS.cells
              rw [z2, ec] at z; cases z
            · have := k a o z1 z2 e1
              rw [this] at z
              cases z
      · rw [q, eD] at z
        cases z
    · by_cases hj : j < zs.length
      · rw [List.getElem?_append_left hj] at e
        exact hR j q e
      · rw [List.getElem?_append_right (by omega)] at e
        have hj0 : j - zs.length < 1 := (List.getElem?_eq_some_iff.mp e).1
        have ej : j = i := by omega
        subst ej
        rw [hzl, Nat.sub_self] at e
        cases e
        exact hz'
    · have : T * ((i + 1 : Nat) : Int) = T * (i : Int) + T := by
        rw [Int.natCast_add, Int.mul_add]
        omega
      omega
    · rw [upd_ne (ne_of_none e nD)]
      exact k4 b o b1 b2 (k b o b1 b2 e)
  · obtain ⟨t, ws, zs, eD, hws, hzl, hR, t0, t2, hS, k⟩ := hP
    exact fin H t zs hzl hR t0 t2 hS k ((hws.weak fun a _ z _ => z.1).lst nD eD)
/-- those items of which this holds -/
theorem lc_keep {K : PySem.W.Frag} {a : Addr} {xs : List V} (pb : V → Bool) {g : TG} {tt : TT} {te : TE} {vs : List Nat} {σ : L2.St} {H1 : Hp} {D : Addr} {Qd : Hp → Prop} (nD : H1 D = none) (ea : H1 a = some (.lst xs)) (hz : xs.length ≤ 1000)
    (turn : ∀ (i : Nat) (x : V) (H : Hp) (Kt : V → Hp → Prop) (Kn : Hp → Prop), xs[i]? = some x → Same H1 H → (∀ H4, Same H H4 → pb x = true → Kt x H4) → (∀ H4, Same H H4 → pb x = false → Kn H4) → g x (wipe σ vs) H fun σ2 H2 => wipe σ2 vs = wipe σ vs ∧ tt σ2 H2 fun b H3 => if b = true then te σ2 H3 Kt else Kn H3)
    (fin : ∀ H, Same H1 H → H D = some (.lst (xs.filter pb)) → Qd H) : LcW (Itl K a) g tt te vs σ D Qd H1 := by
  refine lc_it walk_list (fun j H => Same H1 H ∧ H D = some (.lst ((xs.take j).filter pb))) ⟨same_upd nD, upd_same⟩ (fun i H _ p => SqL.of (p.1 _ _ ea)) (fun i x H H' hi hP hy => ?_) (fun H hP => ?_)
  · obtain ⟨sm, eD⟩ := hP
    obtain ⟨rfl, hx⟩ := hy
    have et : (xs.take (i + 1)).filter pb = (xs.take i).filter pb ++ (if pb x = true then [x] else []) := by
      rw [List.take_add_one, hx, List.filter_append]
      by_cases c : pb x = true
      · rw [if_pos c]
        show _ ++ List.filter pb [x] = _
        rw [List.filter_cons_of_pos c]
        rfl
      · rw [if_neg c]
        show _ ++ List.filter pb [x] = _
        rw [List.filter_cons_of_neg c]
        rfl
    have hl : ((xs.take i).filter pb).length ≤ i := Nat.le_trans (List.length_filter_le ..) (by rw [List.length_take]; omega)
    refine turn i x H' _ _ hx sm (fun H4 s4 c => ?_) (fun H4 s4 c => ?_)
    · refine ⟨_, s4 _ _ eD, Nat.lt_of_lt_of_le (show _ < 1000 by omega) (by decide), fun b o e => ?_, ?_⟩
      · rw [upd_ne (ne_of_none e nD)]
        exact s4 _ _ (sm b o e)
      · rw [upd_same, et, if_pos c]
    · refine ⟨sm.trans s4, ?_⟩
      rw [et, if_neg (by rw [c]; decide), List.append_nil]
      exact s4 _ _ eD
  · obtain ⟨sm, eD⟩ := hP
    rw [List.take_length] at eD
    exact fin H sm eD
theorem lc_new_seq {K : PySem.W.Frag} {a : Addr} {xs : List V} {g : TG} {tt : TT} {te : TE} {vs : List Nat} {σ : L2.St} {H1 : Hp} {Qd : Addr → Hp → Prop} (hq : SqH H1 a xs) (ds : List PyData) (hn : ds.length = xs.length) (hz : xs.length ≤ 1000)
    (turn : ∀ (i : Nat) (x : V) (d : PyData) (H : Hp) (Kt : V → Hp → Prop) (Kn : Hp → Prop), xs[i]? = some x → ds[i]? = some d → Same H1 H → (∀ y H4, Same H H4 → DatN (NewIn H) H4 y d → Kt y H4) → g x (wipe σ vs) H fun σ2 H2 => wipe σ2 vs = wipe σ vs ∧ tt σ2 H2 fun b H3 => if b = true then te σ2 H3 Kt else Kn H3)
    (fin : ∀ D H, H1 D = none → Same H1 H → DatN (NewIn H1) H (.ref D) (.list ds) → Qd D H) :
    ((∃ xs, SqL K H1 a xs) ∧ ∀ D, H1 D = none → LcR (Itl K a) g tt te vs σ D Qd H1) ∨ ((∃ xs, SqT K H1 a xs) ∧ ∀ D, H1 D = none → LcR (Itt K a) g tt te vs σ D Qd H1) := by
  rcases hq with h | h
  · exact .inl ⟨⟨xs, SqL.of h⟩, fun D nD => lc_new (walk_list (xs := xs)) ds nD hn hz (fun H s => SqL.of (s _ _ h)) (fun i x d H H' Kt Kn hd sm hy k => by obtain ⟨rfl, hx⟩ := hy; exact turn i x d H' Kt Kn hx hd sm k) (fun H s d => fin D H nD s d)⟩
  · exact .inr ⟨⟨xs, .inl (.inl h)⟩, fun D nD => lc_new (walk_tup (xs := xs)) ds nD hn hz (fun H s => .inl (.inl (s _ _ h))) (fun i x d H H' Kt Kn hd sm hy k => by obtain ⟨rfl, hx⟩ := hy; exact turn i x d H' Kt Kn hx hd sm k) (fun H s d => fin D H nD s d)⟩
theorem lc_new_list {K : PySem.W.Frag} {a : Addr} {xs : List V} {g : TG} {tt : TT} {te : TE} {vs : List Nat} {σ : L2.St} {H1 : Hp} {D : Addr} {Qd : Hp → Prop} (nD : H1 D = none) (hq : H1 a = some (.lst xs)) (ds : List PyData) (hn : ds.length = xs.length) (hz : xs.length ≤ 1000)
    (turn : ∀ (i : Nat) (x : V) (d : PyData) (H : Hp) (Kt : V → Hp → Prop) (Kn : Hp → Prop), xs[i]? = some x → ds[i]? = some d → Same H1 H → (∀ y H4, Same H H4 → DatN (NewIn H) H4 y d → Kt y H4) → g x (wipe σ vs) H fun σ2 H2 => wipe σ2 vs = wipe σ vs ∧ tt σ2 H2 fun b H3 => if b = true then te σ2 H3 Kt else Kn H3)
    (fin : ∀ H, Same H1 H → DatN (NewIn H1) H (.ref D) (.list ds) → Qd H) : LcW (Itl K a) g tt te vs σ D Qd H1 :=
  lc_new (walk_list (xs := xs)) ds nD hn hz (fun H s => SqL.of (s _ _ hq)) (fun i x d H H' Kt Kn hd sm hy k => by obtain ⟨rfl, hx⟩ := hy; exact turn i x d H' Kt Kn hx hd sm k) fin

open LamX
/-! ### sorted(xs, key=lambda a: ..) -/
/-- the names of such a lambda: its parameter, captured ones, the module's -/
structure LamP (sc scope : Scope) (a : Str) : Prop where
  kind : scope.kind = .function
  co : scope.isCoroutine = false
  gen : scope.isGenerator = false
  par : scope.names.lookup a = some .local
  own : ∀ y ∈ scope.names, y.2 ≠ .cell
  free : ∀ y ∈ scope.names, y.2 = .free → sc.names.lookup y.1 = some .cell ∨ sc.names.lookup y.1 = some .free
def lamPB (sc scope : Scope) (a : Str) : Bool :=
  decide (scope.kind = .function) && !scope.isCoroutine && !scope.isGenerator && decide (scope.names.lookup a = some .local) && scope.names.all fun y => !decide (y.2 = .cell) && (!decide (y.2 = .free) || decide (sc.names.lookup y.1 = some .cell) || decide (sc.names.lookup y.1 = some .free))
theorem lamP_by {sc scope : Scope} {a : Str} (h : lamPB sc scope a = true) : LamP sc scope a := by
  unfold lamPB at h
  simp only [Bool.and_eq_true, Bool.or_eq_true, Bool.not_eq_true', decide_eq_true_eq, decide_eq_false_iff_not, List.all_eq_true] at h
  obtain ⟨⟨⟨⟨h1, h2⟩, h3⟩, h4⟩, h5⟩ := h
  refine ⟨h1, h2, h3, h4, fun y hy => (h5 y hy).1, fun y hy e => ?_⟩
  rcases (h5 y hy).2 with (z | z) | z
  · exact absurd e z
  · exact .inl z
  · exact .inr z
/-- the table of lambdas at P stands, all else is kept -/
def TbL (P : Addr) (q : Str) (H H2 : Hp) : Prop := TabS H2 P q ∧ ∀ b o, H b = some o → (∀ ps, o ≠ .tbl ps) → H2 b = some o
/-- what the body must tell: run in the lambda's frame, it gives the key of what the parameter holds -/
def KeyBody (X : Cx) (scope : Scope) (a : Str) (body : Expr) (Kf : L2.St → Hp → V → PyData → Prop) : Prop :=
  ∀ (pins : List (Addr × Obj)) (σ : L2.St) (H : Hp) (s s1 : Shared) (A : Around) (L f c' : Addr) (v : Value) (x : V) (d : PyData), Inv X pins σ H s → (∀ b o, s.heap.get? b = some o → s1.heap.get? b = some o) → s1.heap.Ns L (fun y => [(a, v)].lookup y) →
    RelV x v → Kf σ H x d → wpAny (model X.prog X.w) A (eval body (lamEnv X scope L f c')) (PySem.W.KeyPure d s1) (fun _ _ => False) s1
def tSortL (K : PySem.W.Frag) (P : Addr) (q : Str) (Kf : L2.St → Hp → V → PyData → Prop) (t : TA) : TE := fun σ H Q => t σ H fun vs H1 => TabS H1 P q ∧ ∃ (a : Addr) (xs : List V) (k : V → PyData), vs = [.ref a] ∧ SqL K H1 a xs ∧
  PySem.W.AllAlike (xs.map k) ∧ PySem.W.Sortable (xs.map k) ∧ (∀ x ∈ xs, (k x).depth ≤ 8) ∧ (∀ x ∈ xs, ∀ H2, TbL P q H1 H2 → Kf σ H2 x (k x)) ∧ ∀ H2 p, TbL P q H1 H2 → H2 p = none → Q (.ref p) (upd H2 p (.lst (xs.mergeSort (PySem.W.dataLe false k))))
theorem each_vals : ∀ {xs : List V} {us : List Value}, Vals xs us → PySem.W.EachIs (fun v x => RelV x v) us xs
  | _, _, .nil => .nil
  | _, _, .cons r t => .cons r (each_vals t)
theorem vals_each : ∀ {xs : List V} {us : List Value}, PySem.W.EachIs (fun v x => RelV x v) us xs → Vals xs us
  | _, _, .nil => .nil
  | _, _, .cons r t => .cons r (vals_each t)
section
variable {X : Cx} {c P : Addr} {e : Expr} {t : TA} {params : Arguments} {body : Expr} {scope : Scope} {a : Str} {lpos kpos p pos : Pos} {Kf : L2.St → Hp → V → PyData → Prop}
theorem pe_sortedL (TB : LamX.TabB X.base X.mg c P) (hcode : X.env.code = .ref c) (hg : Gl X "sorted") (hm : X.mg "sorted" = none) (hr : Room 3 X.A) (ha : PA X [e] t) (hdef : defaultsOf params X.env = ([], [])) (LP : LamP X.env.scope scope a)
    (hbind : ∀ (v pm ctv : Value) (c' : Addr), bindArgs (PySem.W.kla_fn "<lambda>" (X.env.qual ++ "<lambda>") params body scope (cloFrom X.env.cells scope.names []) pm (.ref c') ctv) ⟨[v], []⟩ = pure [(a, v)])
    (hkey : KeyBody X scope a body Kf) (h1 : backTo pos (starEach [e] X.env) = (false, eval e X.env) :: backTo pos (starEach [] X.env) := by rfl) (h2 : (backTo pos (starEach [e] X.env)).any (·.1) = false := by rfl) :
    PE X (.Call (.Name "sorted" p) [e] [⟨some "key", .Lambda params body scope lpos, kpos⟩] pos) (tSortL X.K P (X.env.qual ++ "<lambda>") Kf t) := by
  refine ⟨fun pins s σ H Q I h => ?_⟩
  refine wpAny_Call_Name_kw (ld_blt I hg hm (show bootBuiltins "sorted" = some (.builtin "sorted") by decide +kernel) ?_ (by decide) (by decide))
  refine PyProof.Rows.callWith_kw (thn (ha.run pos pins s σ H _ I h) fun us s1 ⟨vs, H1, I1, r1, hT, aL, xs, k, ev, hS, hal, hso, hdp, hkf, q1⟩ => ?_) h1 h2 rfl rfl
  subst ev
  obtain rfl := Vals.ref1 r1
  show wpAny _ _ (evalAll [do let v ← eval (.Lambda params body scope lpos) X.env; standAt pos; pure v]) _ _ s1
  have hfree : ∀ y ∈ scope.names, y.2 = .free → ∃ c, X.env.cells.lookup y.1 = some c := fun y hy e => by
    rcases LP.free y hy e with z | z
    · exact I.ok.has _ (.inl z)
    · exact I.ok.has _ (.inr z)
  refine wpAny_evalAll_cons (wpAny_bind (lam_make2 (T := [(P, X.env.qual ++ "<lambda>")]) I1 TB hcode (List.mem_cons_self ..) (fun p hp _ => by rw [List.mem_singleton.mp hp]) (fun p hp => by rw [List.mem_singleton.mp hp]; exact hT) hdef hfree
    fun f c' pm ctv H2 s2 I2 x2 T2 hf nf ff hc => wpAny_bind (wpAny_standAt (wpAny_pure (wpAny_evalAll_nil ?_)))))
  have tb2 : TbL P (X.env.qual ++ "<lambda>") H1 H2 := ⟨T2 _ (List.mem_cons_self ..), x2⟩
  have hS2 : SqL X.K H2 aL xs := by
    rcases hS with z | z
    · rcases z with z | ⟨o, z⟩
      · exact .inl (.inl (x2 _ _ z (fun _ w => nomatch w)))
      · exact .inl (.inr ⟨o, x2 _ _ z (fun _ w => nomatch w)⟩)
    · exact .inr z
  obtain ⟨its, rv, pl, hz⟩ := I2.list hS2
  show wpAny _ _ (call (.builtin "sorted") [.ref aL] [(Str.ofString "key", .ref f)]) _ _ s2
  have hun := hr.un
  refine PySem.W.sorted_key_data (R := fun v x => RelV x v) (bs := xs) (vs := its) (b := false) k pl.isList (each_vals rv) hal hso hz (fun x hx => by have := hdp x hx; omega) (PyProof.Rows.ksk_s1 _ _) (fun _ => PyProof.Rows.ksk_l1 _ _) (fun x => PyProof.Rows.ksk_t1 f x) (fun v x hR hx h tk kp => ?_) (fun out c h' tk kp n0 ho hl eo => ?_)
  · have I3 : Inv X pins σ H2 { s2 with heap := h, toks := tk } := I2.kept kp
    have hf3 := kp _ _ hf
    obtain ⟨⟨oc, vs', t', hoc, hdc, hvc⟩, _, _⟩ := I2.hok c' _ hc
    have hr2 : Room 1 X.A.in1.in1 := hr.in1.in1
    refine wpAny_call (codeAny_mono (R := fun r s' => ∃ u, r = .ok (.ret u) ∧ PySem.W.KeyPure (k x) { s2 with heap := h, toks := tk } u s') ?_ fun r s' hq => ?_)
    · refine PySem.W.kla_callFunE (by have := hr2.dp; omega) hf3 rfl LP.co LP.gen rfl ⟨c', oc, vs', t', rfl, kp _ _ hoc, hdc, hvc⟩ ?_
      rw [hbind]
      refine wpAny_pure (wpAny_newFunctionEnv (fun y hy => LP.own y hy) (fun y hy => by rw [List.mem_singleton.mp hy]; exact LP.par) (fun h₁ hns hsb => ⟨I3.nolimit.fresh _ hsb, ?_⟩) LP.kind)
      have kp1 : ∀ b o, h.get? b = some o → h₁.get? b = some o := fun b o e => hsb.extBut b o (Nat.ne_of_lt (Heap.lt_size e)) (Heap.get?_push_of_some _ e)
      show codeAny _ _ (.expr body (lamEnv X scope h.objs.size f c')) _ _
      refine PySem.W.kla_codeExpr (wpAny_mono (hkey pins σ H2 { s2 with heap := h, toks := tk } { s2 with heap := h₁, toks := tk + 1 } _ h.objs.size f c' v x (k x) I3 kp1 hns hR (hkf x hx H2 tb2)) (fun u s' hq => ?_) fun _ _ z => z.elim)
      obtain ⟨h5, tk5, rfl, k5, rd⟩ := hq
      exact ⟨u, rfl, h5, tk5, rfl, fun b o e => k5 b o (kp1 b o e), rd⟩
    · obtain ⟨u, rfl, hk⟩ := hq
      exact hk
  · have hlen : (xs.mergeSort (PySem.W.dataLe false k)).length ≤ sizeLine := by rw [List.length_mergeSort]; exact hz
    have np : H2 (s2.heap.objs.size + 1) = none := I2.hok.fresh (Nat.le_succ _)
    exact ⟨.ref _, upd H2 (s2.heap.objs.size + 1) (.lst (xs.mergeSort (PySem.W.dataLe false k))), I2.laid (t' := tk) kp (Nat.le_succ _) ⟨hlen, _, c, vals_each eo, ho⟩, rfl, q1 H2 _ tb2 np⟩
end

/-- an expression that changes nothing but the count of tokens -/
def Gv (prog : Program) (w : World) (A : Around) (env : Env) (e : Expr) (s : Shared) (R : Value → Prop) : Prop := ∀ (tk0 : Nat) (Q : Value → Shared → Prop) (E : Value → Shared → Prop), (∀ u tk, R u → Q u { s with toks := tk }) → wpAny (model prog w) A (eval e env) Q E { s with toks := tk0 }
section
variable {prog : Program} {w : World} {A : Around} {env : Env} {s : Shared} {e b : Expr} {pos : Pos}
theorem gv_int {i : Int} {j : Nat} : Gv prog w A env (.Constant (.int i) j pos) s (fun u => ∃ t, u = .int i t) := fun _ _ _ h => wpAny_Constant_int (h _ _ ⟨_, rfl⟩)
theorem gv_neg {i : Int} (ha : Gv prog w A env e s (fun u => ∃ t, u = .int i t)) : Gv prog w A env (.UnaryOp .USub e pos) s (fun u => ∃ t, u = .int (-i) t) := fun tk0 Q E h =>
  PyProof.Rows.UnaryOp_ (ha tk0 _ _ fun u tk ⟨t, e⟩ => by rw [e]; exact neg_int (h _ _ ⟨_, rfl⟩))
theorem gv_loc {x : Str} {m : Str → Option Value} {v : Value} (hk : env.scope.kind = .function) (hl : env.kindOf x = some .local) (hn : s.heap.Ns env.locals m) (hv : m x = some v) (hd : (x == ("__debug__" : Str)) = false := by decide) : Gv prog w A env (.Name x pos) s (fun u => u = v) := fun tk0 Q E h =>
  wpAny_Name (wpAny_loadName_local (s := { s with toks := tk0 }) hk hl hn hv (h v tk0 rfl)) hd
theorem gv_free {x : Str} {c : Addr} {v : Value} (hk : env.scope.kind = .function) (hl : env.kindOf x = some .free) (hc : env.cells.lookup x = some c) (hv : s.heap.IsCell c (some v)) (hd : (x == ("__debug__" : Str)) = false := by decide) (hcd : (x == ("__classdict__" : Str)) = false := by decide) : Gv prog w A env (.Name x pos) s (fun u => u = v) := fun tk0 Q E h =>
  wpAny_Name (wpAny_loadName_free (s := { s with toks := tk0 }) hk hl hc hv (h v tk0 rfl) hcd) hd
theorem gv_ixT {t : Addr} {its : List Value} {i : Int} {v : Value} (ha : Gv prog w A env e s (fun u => u = .ref t)) (hb : Gv prog w A env b s (fun u => ∃ t, u = .int i t)) (pl : IsTup s.heap t its.toArray) (hz : its.length ≤ sizeLine) (hv : atI its i = some v) (hs : PlainIx b) : Gv prog w A env (.Subscript e b pos) s (fun u => u = v) := fun tk0 Q E h => by
  refine PyProof.Rows.Subscript_ (ha tk0 _ _ fun u tk eu => hb tk _ _ fun u2 tk2 ⟨t2, e2⟩ => ?_)
  subst eu
  subst e2
  obtain ⟨j, h1, h2, h3, h4, h5⟩ := atI_get hv
  have hn := line63
  exact subscriptTail_builtinR (x := v) pl.typeIs slot_tuple_getitem.lookup (getItem_tuple (s := { s with toks := tk2 }) (j := j) (Q := fun r s' => r = v ∧ Q r s') pl (by omega) (by omega) (by rw [List.size_toArray]; exact h1) (by simpa using h2) ⟨rfl, h v tk2 rfl⟩) (hs _ _)
theorem gv_ixL {t : Addr} {its : List Value} {i : Int} {v : Value} (ha : Gv prog w A env e s (fun u => u = .ref t)) (hb : Gv prog w A env b s (fun u => ∃ t, u = .int i t)) (pl : PlainL s.heap t its.toArray) (hz : its.length ≤ sizeLine) (hv : atI its i = some v) (hs : PlainIx b) : Gv prog w A env (.Subscript e b pos) s (fun u => u = v) := fun tk0 Q E h => by
  refine PyProof.Rows.Subscript_ (ha tk0 _ _ fun u tk eu => hb tk _ _ fun u2 tk2 ⟨t2, e2⟩ => ?_)
  subst eu
  subst e2
  obtain ⟨j, h1, h2, h3, h4, h5⟩ := atI_get hv
  have hn := line63
  by_cases h0 : 0 ≤ i
  · have hj : i.toNat = j := by
      rw [seqIndex_of h0 h5] at h1
      exact Option.some.inj h1
    exact item_listR (s := { s with toks := tk2 }) pl.isList h0 (by omega) (by rw [hj]; simpa using h2) (h v tk2 rfl) (hs _ _)
  · have hj : (i + (its.toArray.size : Int)).toNat = j := by
      rw [seqIndex_neg (by omega) h4] at h1
      rw [List.size_toArray]
      exact Option.some.inj h1
    exact subscriptTail_builtinR (x := v) pl.isList.typeIs slot_list_getitem.lookup
      (wpAny_getItem_list_neg (s := { s with toks := tk2 }) (Q := fun r s' => r = v ∧ Q r s') pl.isList (by omega) (by rw [List.size_toArray] <;> omega) (by omega) (by rw [hj]; simpa using h2) ⟨rfl, h v tk2 rfl⟩) (hs _ _)
end
/-! ### the keys -/
theorem vals_at {xs : List V} {us : List Value} (r : Vals xs us) {i : Int} {x : V} (h : atI xs i = some x) : ∃ u, atI us i = some u ∧ RelV x u := by
  unfold atI at h ⊢
  rw [← r.length]
  cases e : ixN xs.length i with
  | none => rw [e] at h; cases h
  | some j =>
    rw [e] at h
    exact r.get h
section
variable {X : Cx} {scope : Scope} {a : Str} {p1 p2 p3 p4 p5 p6 p7 p8 p9 : Pos} {j1 j2 j3 : Nat}
/-- lambda a: (a[0], a[1]) -/
def KfPair (K : PySem.W.Frag) : L2.St → Hp → V → PyData → Prop := fun _ H x d => ∃ (t : Addr) (xs : List V) (i j : Int), x = .ref t ∧ SqT K H t xs ∧ atI xs 0 = some (.int i) ∧ atI xs 1 = some (.int j) ∧ d = .tuple [.int i, .int j]
theorem key_pair {x1 : Nat} (LP : LamP X.env.scope scope a) (hd : (a == ("__debug__" : Str)) = false) : KeyBody X scope a (.Tuple [.Subscript (.Name a p1) (.Constant (.int 0) j1 p2) p3, .Subscript (.Name a p4) (.Constant (.int 1) j2 p5) p6] x1 p7) (KfPair X.K) := by
  intro pins σ H s s1 A L f c' v x d I kp hn r h
  obtain ⟨t, xs, i, j, rfl, hS, e0, e1, rfl⟩ := h
  have I1 : Inv X pins σ H { s with heap := s1.heap, toks := s.toks } := I.kept kp
  obtain ⟨its, rv, pl, hz⟩ := I1.tuple hS
  obtain ⟨u0, a0, t0, rfl⟩ := vals_at rv e0
  obtain ⟨u1, a1, t1, rfl⟩ := vals_at rv e1
  cases r
  have hz' : its.length ≤ sizeLine := by rw [← rv.length]; exact hz
  have nm : ∀ p, Gv X.prog X.w A (lamEnv X scope L f c') (.Name a p) s1 (fun u => u = .ref t) := fun p => gv_loc LP.kind LP.par hn (by simp) hd
  refine wpAny_Tuple_spliced ?_
  show wpAny _ _ (spliced [(false, eval (.Subscript (.Name a p1) (.Constant (.int 0) j1 p2) p3) (lamEnv X scope L f c')), (false, eval (.Subscript (.Name a p4) (.Constant (.int 1) j2 p5) p6) (lamEnv X scope L f c'))]) _ _ s1
  refine Calls.spliced_cons (gv_ixT (nm p1) gv_int pl hz' a0 (fun _ _ => rfl) s1.toks _ _ fun u tk eu => Calls.spliced_cons (gv_ixT (nm p4) gv_int pl hz' a1 (fun _ _ => rfl) tk _ _ fun u2 tk2 eu2 => Calls.spliced_nil ⟨(by show 2 ≤ sizeLine; decide), ?_⟩))
  subst eu
  subst eu2
  exact ⟨_, tk2, rfl, fun b o e => Heap.get?_push_of_some _ e, .tuple (Heap.get?_push_size _ rfl) rfl rfl (.cons (.int _ _) (.cons (.int _ _) .nil))⟩
/-- what is captured at slot i, as the lambda reads it -/
theorem cap_at {i : Nat} {y : Str} {v : V} {pins : List (Addr × Obj)} {σ : L2.St} {H : Hp} {s : Shared} (I : Inv X pins σ H s) (LP : LamP X.env.scope scope a) (hN : X.N[i]? = some y) (hc : X.env.scope.names.lookup y = some .cell) (hy : scope.names.lookup y = some .free) (hv : σ[i]? = some (some v)) :
    ∃ c u, (cloFrom X.env.cells scope.names []).lookup y = some c ∧ s.heap.IsCell c (some u) ∧ RelV v u := by
  obtain ⟨m, hn, look⟩ := I.loc
  obtain ⟨u, r, l⟩ := look i y v hN hv (.inr (.inl hc))
  rcases l with ⟨z, _⟩ | ⟨_, c, e, hcell⟩
  · rw [show X.env.kindOf y = some .cell from hc] at z
    cases z
  · obtain ⟨c2, h2⟩ := mem_lookup (cloFrom_has (cells := X.env.cells) (acc := []) (PySem.mem_of_lookup hy))
    refine ⟨c2, u, h2, ?_, r⟩
    rcases cloFrom_mem (PySem.mem_of_lookup h2) with hm | ⟨_, w⟩
    · cases hm
    · have w2 : c2 = c := by rw [w, e]; rfl
      rw [w2]
      exact hcell
/-- lambda a: y[a][1], y captured: a list of tuples -/
def KfAt1 (K : PySem.W.Frag) (i : Nat) : L2.St → Hp → V → PyData → Prop := fun σ H x d => ∃ (l t : Addr) (ls ts : List V) (n k : Int), σ[i]? = some (some (.ref l)) ∧ x = .int n ∧ SqL K H l ls ∧ atI ls n = some (.ref t) ∧ SqT K H t ts ∧ atI ts 1 = some (.int k) ∧ d = .int k
theorem key_at1 {i : Nat} {y : Str} (LP : LamP X.env.scope scope a) (hN : X.N[i]? = some y) (hc : X.env.scope.names.lookup y = some .cell) (hy : scope.names.lookup y = some .free) (hd : (a == ("__debug__" : Str)) = false) (hd2 : (y == ("__debug__" : Str)) = false) (hcd : (y == ("__classdict__" : Str)) = false) :
    KeyBody X scope a (.Subscript (.Subscript (.Name y p1) (.Name a p2) p3) (.Constant (.int 1) j1 p4) p5) (KfAt1 X.K i) := by
  intro pins σ H s s1 A L f c' v x d I kp hn r h
  obtain ⟨l, t, ls, ts, n, k, hv, rfl, hS, e0, hT, e1, rfl⟩ := h
  obtain ⟨tn, rfl⟩ := r
  have I1 : Inv X pins σ H { s with heap := s1.heap, toks := s.toks } := I.kept kp
  obtain ⟨c, u, g1, g2, g3⟩ := cap_at I1 LP hN hc hy hv
  cases g3
  obtain ⟨its, rv, pl, hz⟩ := I1.list hS
  obtain ⟨jts, rw', pt, hz2⟩ := I1.tuple hT
  obtain ⟨u0, a0, w0⟩ := vals_at rv e0
  cases w0
  obtain ⟨u1, a1, t1, rfl⟩ := vals_at rw' e1
  have ny : ∀ p, Gv X.prog X.w A (lamEnv X scope L f c') (.Name y p) s1 (fun u => u = .ref l) := fun p => gv_free LP.kind hy g1 g2 hd2 hcd
  have na : ∀ p, Gv X.prog X.w A (lamEnv X scope L f c') (.Name a p) s1 (fun u => ∃ t, u = .int n t) := fun p tk0 Q E h => (gv_loc (pos := p) LP.kind LP.par hn (by simp) hd : Gv X.prog X.w A (lamEnv X scope L f c') (.Name a p) s1 (fun u => u = .int n tn)) tk0 Q E fun u tk eu => h u tk ⟨tn, eu⟩
  refine gv_ixT (gv_ixL (ny p1) (na p2) pl (by rw [← rv.length]; exact hz) a0 (fun _ _ => rfl)) gv_int pt (by rw [← rw'.length]; exact hz2) a1 (fun _ _ => rfl) s1.toks _ _ fun u tk eu => ?_
  subst eu
  exact ⟨s1.heap, tk, rfl, fun _ _ e => e, .int _ _⟩
/-- lambda a: y[a][-1][1], y captured: a list of lists of tuples -/
def KfLast1 (K : PySem.W.Frag) (i : Nat) : L2.St → Hp → V → PyData → Prop := fun σ H x d => ∃ (l m t : Addr) (ls ms ts : List V) (n k : Int), σ[i]? = some (some (.ref l)) ∧ x = .int n ∧ SqL K H l ls ∧ atI ls n = some (.ref m) ∧ SqL K H m ms ∧ atI ms (-1) = some (.ref t) ∧ SqT K H t ts ∧ atI ts 1 = some (.int k) ∧ d = .int k
theorem key_last1 {i : Nat} {y : Str} (LP : LamP X.env.scope scope a) (hN : X.N[i]? = some y) (hc : X.env.scope.names.lookup y = some .cell) (hy : scope.names.lookup y = some .free) (hd : (a == ("__debug__" : Str)) = false) (hd2 : (y == ("__debug__" : Str)) = false) (hcd : (y == ("__classdict__" : Str)) = false) :
    KeyBody X scope a (.Subscript (.Subscript (.Subscript (.Name y p1) (.Name a p2) p3) (.UnaryOp .USub (.Constant (.int 1) j2 p6) p7) p8) (.Constant (.int 1) j1 p4) p5) (KfLast1 X.K i) := by
  intro pins σ H s s1 A L f c' v x d I kp hn r h
  obtain ⟨l, m, t, ls, ms, ts, n, k, hv, rfl, hS, e0, hM, em, hT, e1, rfl⟩ := h
  obtain ⟨tn, rfl⟩ := r
  have I1 : Inv X pins σ H { s with heap := s1.heap, toks := s.toks } := I.kept kp
  obtain ⟨c, u, g1, g2, g3⟩ := cap_at I1 LP hN hc hy hv
  cases g3
  obtain ⟨its, rv, pl, hz⟩ := I1.list hS
  obtain ⟨kts, rk, pk, hz3⟩ := I1.list hM
  obtain ⟨jts, rw', pt, hz2⟩ := I1.tuple hT
  obtain ⟨u0, a0, w0⟩ := vals_at rv e0
  cases w0
  obtain ⟨u2, a2, w2⟩ := vals_at rk em
  cases w2
  obtain ⟨u1, a1, t1, rfl⟩ := vals_at rw' e1
  have ny : ∀ p, Gv X.prog X.w A (lamEnv X scope L f c') (.Name y p) s1 (fun u => u = .ref l) := fun p => gv_free LP.kind hy g1 g2 hd2 hcd
  have na : ∀ p, Gv X.prog X.w A (lamEnv X scope L f c') (.Name a p) s1 (fun u => ∃ t, u = .int n t) := fun p tk0 Q E h => (gv_loc (pos := p) LP.kind LP.par hn (by simp) hd : Gv X.prog X.w A (lamEnv X scope L f c') (.Name a p) s1 (fun u => u = .int n tn)) tk0 Q E fun u tk eu => h u tk ⟨tn, eu⟩
  refine gv_ixT (gv_ixL (gv_ixL (ny p1) (na p2) pl (by rw [← rv.length]; exact hz) a0 (fun _ _ => rfl)) (gv_neg gv_int) pk (by rw [← rk.length]; exact hz3) a2 (fun _ _ => rfl)) gv_int pt (by rw [← rw'.length]; exact hz2) a1 (fun _ _ => rfl) s1.toks _ _ fun u tk eu => ?_
  subst eu
  exact ⟨s1.heap, tk, rfl, fun _ _ e => e, .int _ _⟩
end

open LamX
/-! ### sorted(range(n), key=lambda a: ..) -/
theorem cr_range1 {X : Cx} : CallR X (.type "range") (fun vs H Q => ∃ j, vs = [V.int j] ∧ ∀ p, H p = none → Q (.ref p) (upd H p (.rng 0 j))) := fun pins s σ H vs us Q I r h => by
  obtain ⟨j, rfl, q⟩ := h
  obtain ⟨u, rfl, t, rfl⟩ := vals1 r
  refine call_range_1 ⟨.ref s.heap.objs.size, upd H s.heap.objs.size (.rng 0 j), I.laid (t' := s.toks + 1 + 1) (fun b o e => Heap.get?_push_of_some _ e) (Nat.le_refl _) ?_, rfl, q _ (I.hok.fresh (Nat.le_refl _))⟩
  exact ⟨s.toks, t, s.toks + 1, Heap.get?_push_size _ rfl⟩
abbrev rngV (n : Nat) : List V := (List.range n).map fun i : Nat => V.int (i : Int)
theorem vals_of : ∀ {xs : List V} {us : List Value}, xs.length = us.length → (∀ (j : Nat) x u, xs[j]? = some x → us[j]? = some u → RelV x u) → Vals xs us
  | [], [], _, _ => .nil
  | [], _ :: _, h, _ => nomatch h
  | _ :: _, [], h, _ => nomatch h
  | x :: xs, u :: us, h, r => .cons (r 0 x u rfl rfl) (vals_of (Nat.succ.inj h) fun j y w e1 e2 => r (j + 1) y w e1 e2)
section
variable {prog : Program} {w : World} {A : Around} {E : Value → Shared → Prop} {s : Shared}
theorem sorted_key_range {r : Addr} {f : Addr} {n : Nat} {t u v : Tok} {Q : Value → Shared → Prop} (k : V → PyData) (hh : A.handled = none) (hr : IsRange s.heap r 0 (n : Int) 1 t u v) (hn : n ≤ 10000) (hal : PySem.W.AllAlike ((rngV n).map k)) (hk : PySem.W.Sortable ((rngV n).map k))
    (hu : ∀ x, x ∈ rngV n → A.units + 2 + (k x).depth < cLine)
    (turn : ∀ (v : Value) (x : V), RelV x v → x ∈ rngV n → ∀ (h : Heap) (tk : Nat), (∀ b o, s.heap.get? b = some o → h.get? b = some o) →
      wpAny (model prog w) A.in1.in1 (call (.ref f) [v]) (PySem.W.KeyPure (k x) { s with heap := h, toks := tk }) (fun _ _ => False) { s with heap := h, toks := tk })
    (h : ∀ p out c h' tk, s.heap.get? p = none → (∀ b o, s.heap.get? b = some o → h'.get? b = some o) → h'.get? p = some (seqObj "list" (List.toArray out) c) → Vals ((rngV n).mergeSort (PySem.W.dataLe false k)) out →
      Q (.ref p) { s with heap := h', toks := tk }) :
    wpAny (model prog w) A (call (.builtin "sorted") [.ref r] [(Str.ofString "key", .ref f)]) Q E s := by
  refine call_function_entry_kw kind_sorted plain_sorted entry_sorted (PyProof.Rows.ksk_s1 _ _) ?_
  unfold Builtin.«sorted»
  refine wpAny_bind (m := checkCount "sorted" 1 1 _) (wpAny_pure ?_)
  refine wpAny_bind (collect_range (n := n) (A := A.in1) hh hr ?_ ?_ (by omega) fun h1 tk1 acc k1 hi => ?_)
  · exact small_one (by decide) (by decide) (by omega) (by omega)
  · rw [rangeSize_one]
    split <;> omega
  · have hL : acc.toList.length ≤ sizeLine := by rw [Array.length_toList, hi.1]; exact Nat.le_trans hn (by decide)
    refine wpAny_bind (wpAny_newList ?_ hL)
    refine wpAny_bind (wpAny_holding (wpAny_call_entry_kw slot_list_sort ⟨_, Heap.get?_push_size _ rfl, rfl⟩ entry_list_sort ?body (PyProof.Rows.ksk_l1 _ _)))
    case body =>
      rw [PyProof.Rows.ksk_t1]
      have ev : PySem.W.EachIs (fun v x => RelV x v) acc.toList (rngV n) := by
        refine each_vals (vals_of (by rw [List.length_map, List.length_range, Array.length_toList, hi.1]) fun j x u e1 e2 => ?_)
        obtain ⟨t, rfl⟩ := hi.2 j u (by simpa using e2)
        rw [List.getElem?_map] at e1
        cases e3 : (List.range n)[j]? with
        | none => rw [e3] at e1; cases e1
        | some m =>
          rw [e3] at e1
          cases e1
          have : m = j := by
            have := List.getElem?_eq_some_iff.mp e3
            obtain ⟨hj, e⟩ := this
            rw [List.getElem_range] at e
            exact e.symm
          subst this
          exact ⟨t, by simp⟩
      have fr : ∀ b o, s.heap.get? b = some o → b ≠ h1.objs.size := fun b o e => Nat.ne_of_lt (Heap.lt_size (k1 b o e))
      refine PySem.W.keyH_tree (b := false) (vs := acc.toList) (kz := (rngV n).map k) (s := { s with heap := h1.push (seqObj "list" acc.toList.toArray 0), toks := tk1 }) (Heap.get?_push_size _ rfl) (by rw [List.length_map]; exact ev.length.symm) hL hal hk (fun d hd => by obtain ⟨x, hx, rfl⟩ := List.mem_map.mp hd; exact hu x hx)
        (PySem.W.keyH_turns (h₁ := h1.push (seqObj "list" acc.toList.toArray 0)) (s := { s with heap := h1.push (seqObj "list" acc.toList.toArray 0), toks := tk1 }) ev fun v x hR hx h' tk kp => turn v x hR hx h' tk fun b o e => kp b o (fr b o e) (Heap.get?_push_of_some _ (k1 b o e))) fun h' tk out c kp hD ko => ?_
      refine ⟨.none, rfl, wpAny_pure ⟨_, rfl, ?_⟩⟩
      have nn : s.heap.get? h1.objs.size = none := by
        cases e : s.heap.get? h1.objs.size with
        | none => rfl
        | some o => exact absurd rfl (fr _ _ e)
      exact h h1.objs.size out c h' tk nn (fun b o e => kp b o (fr b o e) (Heap.get?_push_of_some _ (k1 b o e))) hD (vals_each (PySem.W.keyedOut_each k ko ev))
end

def tSortLR (P : Addr) (q : Str) (Kf : L2.St → Hp → V → PyData → Prop) (t : TA) : TE := fun σ H Q => t σ H fun vs H1 => TabS H1 P q ∧ ∃ (a : Addr) (n : Nat) (k : V → PyData), vs = [.ref a] ∧ H1 a = some (.rng 0 (n : Int)) ∧ n ≤ 10000 ∧
  PySem.W.AllAlike ((rngV n).map k) ∧ PySem.W.Sortable ((rngV n).map k) ∧ (∀ x ∈ rngV n, (k x).depth ≤ 8) ∧ (∀ x ∈ rngV n, ∀ H2, TbL P q H1 H2 → Kf σ H2 x (k x)) ∧ ∀ H2 p, TbL P q H1 H2 → H2 p = none → Q (.ref p) (upd H2 p (.lst ((rngV n).mergeSort (PySem.W.dataLe false k))))
section
variable {X : Cx} {c P : Addr} {e : Expr} {t : TA} {params : Arguments} {body : Expr} {scope : Scope} {a : Str} {lpos kpos p pos : Pos} {Kf : L2.St → Hp → V → PyData → Prop}
theorem pe_sortedLR (TB : LamX.TabB X.base X.mg c P) (hcode : X.env.code = .ref c) (hg : Gl X "sorted") (hm : X.mg "sorted" = none) (hr : Room 3 X.A) (ha : PA X [e] t) (hdef : defaultsOf params X.env = ([], [])) (LP : LamP X.env.scope scope a)
    (hbind : ∀ (v pm ctv : Value) (c' : Addr), bindArgs (PySem.W.kla_fn "<lambda>" (X.env.qual ++ "<lambda>") params body scope (cloFrom X.env.cells scope.names []) pm (.ref c') ctv) ⟨[v], []⟩ = pure [(a, v)])
    (hkey : KeyBody X scope a body Kf) (h1 : backTo pos (starEach [e] X.env) = (false, eval e X.env) :: backTo pos (starEach [] X.env) := by rfl) (h2 : (backTo pos (starEach [e] X.env)).any (·.1) = false := by rfl) :
    PE X (.Call (.Name "sorted" p) [e] [⟨some "key", .Lambda params body scope lpos, kpos⟩] pos) (tSortLR P (X.env.qual ++ "<lambda>") Kf t) := by
  refine ⟨fun pins s σ H Q I h => ?_⟩
  refine wpAny_Call_Name_kw (ld_blt I hg hm (show bootBuiltins "sorted" = some (.builtin "sorted") by decide +kernel) ?_ (by decide) (by decide))
  refine PyProof.Rows.callWith_kw (thn (ha.run pos pins s σ H _ I h) fun us s1 ⟨vs, H1, I1, r1, hT, aL, n, k, ev, hS, hn, hal, hso, hdp, hkf, q1⟩ => ?_) h1 h2 rfl rfl
  subst ev
  obtain rfl := Vals.ref1 r1
  show wpAny _ _ (evalAll [do let v ← eval (.Lambda params body scope lpos) X.env; standAt pos; pure v]) _ _ s1
  have hfree : ∀ y ∈ scope.names, y.2 = .free → ∃ c, X.env.cells.lookup y.1 = some c := fun y hy e => by
    rcases LP.free y hy e with z | z
    · exact I.ok.has _ (.inl z)
    · exact I.ok.has _ (.inr z)
  refine wpAny_evalAll_cons (wpAny_bind (lam_make2 (T := [(P, X.env.qual ++ "<lambda>")]) I1 TB hcode (List.mem_cons_self ..) (fun p hp _ => by rw [List.mem_singleton.mp hp]) (fun p hp => by rw [List.mem_singleton.mp hp]; exact hT) hdef hfree
    fun f c' pm ctv H2 s2 I2 x2 T2 hf nf ff hc => wpAny_bind (wpAny_standAt (wpAny_pure (wpAny_evalAll_nil ?_)))))
  have tb2 : TbL P (X.env.qual ++ "<lambda>") H1 H2 := ⟨T2 _ (List.mem_cons_self ..), x2⟩
  have hS2 : H2 aL = some (.rng 0 (n : Int)) := x2 _ _ hS (fun _ w => nomatch w)
  obtain ⟨t0, t1, t2, hra⟩ := (show ObjOk X.prog X.w H2 s2.heap aL (.rng 0 (n : Int)) from I2.hok aL _ hS2)
  show wpAny _ _ (call (.builtin "sorted") [.ref aL] [(Str.ofString "key", .ref f)]) _ _ s2
  have hun := hr.un
  refine sorted_key_range k hr.hd hra hn hal hso (fun x hx => by have := hdp x hx; omega) (fun v x hR hx h tk kp => ?_) (fun pn out c h' tk n0 kp ho eo => ?_)
  · have I3 : Inv X pins σ H2 { s2 with heap := h, toks := tk } := I2.kept kp
    have hf3 := kp _ _ hf
    obtain ⟨⟨oc, vs', t', hoc, hdc, hvc⟩, _, _⟩ := I2.hok c' _ hc
    have hr2 : Room 1 X.A.in1.in1 := hr.in1.in1
    refine wpAny_call (codeAny_mono (R := fun r s' => ∃ u, r = .ok (.ret u) ∧ PySem.W.KeyPure (k x) { s2 with heap := h, toks := tk } u s') ?_ fun r s' hq => ?_)
    · refine PySem.W.kla_callFunE (by have := hr2.dp; omega) hf3 rfl LP.co LP.gen rfl ⟨c', oc, vs', t', rfl, kp _ _ hoc, hdc, hvc⟩ ?_
      rw [hbind]
      refine wpAny_pure (wpAny_newFunctionEnv (fun y hy => LP.own y hy) (fun y hy => by rw [List.mem_singleton.mp hy]; exact LP.par) (fun h₁ hns hsb => ⟨I3.nolimit.fresh _ hsb, ?_⟩) LP.kind)
      have kp1 : ∀ b o, h.get? b = some o → h₁.get? b = some o := fun b o e => hsb.extBut b o (Nat.ne_of_lt (Heap.lt_size e)) (Heap.get?_push_of_some _ e)
      show codeAny _ _ (.expr body (lamEnv X scope h.objs.size f c')) _ _
      refine PySem.W.kla_codeExpr (wpAny_mono (hkey pins σ H2 { s2 with heap := h, toks := tk } { s2 with heap := h₁, toks := tk + 1 } _ h.objs.size f c' v x (k x) I3 kp1 hns hR (hkf x hx H2 tb2)) (fun u s' hq => ?_) fun _ _ z => z.elim)
      obtain ⟨h5, tk5, rfl, k5, rd⟩ := hq
      exact ⟨u, rfl, h5, tk5, rfl, fun b o e => k5 b o (kp1 b o e), rd⟩
    · obtain ⟨u, rfl, hk⟩ := hq
      exact hk
  · have hlen : ((rngV n).mergeSort (PySem.W.dataLe false k)).length ≤ sizeLine := by rw [List.length_mergeSort, List.length_map, List.length_range]; exact Nat.le_trans hn (by decide)
    have np : H2 pn = none := HOk.gone (show HOk X.prog X.w H2 s2.heap from I2.hok) n0
    exact ⟨.ref _, upd H2 pn (.lst ((rngV n).mergeSort (PySem.W.dataLe false k))), Inv.laidN (t' := tk) I2 kp n0 np ⟨hlen, _, c, eo, ho⟩, rfl, q1 H2 _ tb2 np⟩
end

theorem nodup_len {α : Type} [DecidableEq α] : ∀ {l m : List α}, l.Nodup → (∀ x ∈ l, x ∈ m) → l.length ≤ m.length
  | [], _, _, _ => Nat.zero_le _
  | x :: r, m, nd, h => by
    have nx := (List.nodup_cons.mp nd).1
    have ih := nodup_len (m := m.erase x) (List.nodup_cons.mp nd).2 fun y hy => by
      have hne : y ≠ x := fun e => nx (e ▸ hy)
      exact (List.mem_erase_of_ne hne).mpr (h y (List.mem_cons_of_mem _ hy))
    have e := List.length_erase_of_mem (h x (List.mem_cons_self ..))
    have pos : 0 < m.length := List.length_pos_of_mem (h x (List.mem_cons_self ..))
    rw [List.length_cons]
    omega

/-! ### the draws of runs -/
theorem eqv_none {α : Type} (f : α → PyData) (ps : List α) : PyData.eqv (PyData.list (ps.map f)) (PyData.list []) = ps.isEmpty := by
  cases ps with
  | nil => simp [PyData.eqv, PyData.eqvAll]
  | cons p r => simp [PyData.eqv, PyData.eqvAll]
/-- xs != [], of pairs -/
theorem ne_nilP {K : PySem.W.Frag} {H : Hp} {p l : Addr} {ps : List (Int × Int)} {Q : VK} (h : LsA H p ps) (el : H l = some (.lst [])) (q : Q (.bl (!ps.isEmpty)) H) : rNeD K (.ref p) (.ref l) H Q :=
  ⟨_, .list [], h.dp, .lst (SqL.of el) .nil, shaped_prs ps, by rfl, by rw [eqv_none]; exact q⟩
theorem LsA.kp {H H' : Hp} {d c a : Addr} {t : Int} {ps : List (Int × Int)} (h : LsA H a ps) (S : StAt H d c t) (k : Kp d c H H') (n : a ≠ d ∧ a ≠ c) : LsA H' a ps := let ⟨us, e, p⟩ := h; ⟨us, k _ _ n.1 n.2 e, p.kp S k⟩
theorem pick_at {xs : List V} {n : Nat} (hn : xs.length = n) {r : Int} (r0 : 0 ≤ r) (r1 : r < n) : ∃ v, atI xs r = some v ∧ v ∈ xs := by
  obtain ⟨k, rfl⟩ := Int.eq_ofNat_of_zero_le r0
  have lt : k < xs.length := by omega
  exact ⟨_, atI_nat (List.getElem?_eq_getElem lt), List.getElem_mem lt⟩
def RunOk (most : Int) (rs : List (Int × Int)) : Prop := ∀ r ∈ rs, 0 ≤ r.1 ∧ r.1 ≤ r.2 ∧ r.2 ≤ most
def spRuns : Sp := fun vs H Q _ => ∃ (d c : Addr) (t many most wide : Int), vs = [.ref d, .int many, .int most, .int wide] ∧ StAt H d c t ∧ t < 2 ^ 58 ∧ 0 ≤ many ∧ many ≤ 900 ∧ 0 ≤ most ∧ most ≤ 2 ^ 60 ∧ 1 ≤ wide ∧ wide ≤ 2 ^ 60 ∧
  ∀ l rs H' t', H l = none → LsA H' l rs → RunOk most rs → (rs.length : Int) = many → t ≤ t' → t' ≤ t + 10 * many → StAt H' d c t' → Kp d c H H' → Q (.ref l) H'
abbrev sRuns : Stmt := topS 27
theorem scRuns : FnScope ["_law_state", "_law_many", "_law_most", "_law_wide", "_law_runs_here", "_law_turn", "_law_kind", "_law_first", "_law_last"] ["_law_state", "_law_many", "_law_most", "_law_wide"] (defScope sRuns) := ⟨rfl, rfl, rfl, by decide +kernel, rfl, by decide +kernel, by decide +kernel⟩
section
variable {K : PySem.W.Frag} {mg : Str → Option Value} {P : Program} {w : World} {base : Heap}
theorem ok_Runs {f : Addr} {fd : FuncData} (F : Fun K "_law_runs" "_law_runs" sRuns f fd) (C__law_take : Cal P w K mg base 1 "_law_take" ["_law_state", "_law_many"] spTake) (m_range : mg "range" = none) (m_min : mg "min" = none) (m_len : mg "len" = none) : FnOk P w K mg base CX0 2 f fd ["_law_state", "_law_many", "_law_most", "_law_wide"] spRuns := by
  refine F.ok scRuns (fun vs H Q E h => ?_) (fun cdv A outer s H vs Q E hr h => ?_)
  · obtain ⟨d, c, t, many, most, wide, rfl, _⟩ := h
    rfl
  · obtain ⟨d, c, t, many, most, wide, rfl, hS, ht, m0, m1, mo0, mo1, w0, w1, q⟩ := h
    refine ⟨_, pss_cons (ps_set (i := 4) scRuns.nd rfl (.inl rfl) (pe_lst pa_nil))
      (pss_cons (ps_for PassesOwn.never rfl (pi_range1 rfl m_range (pa_cons (pv 1) pa_nil)) (pg_name (i := 5) scRuns.nd rfl (.inl rfl))
        (pss_cons (ps_set (i := 6) scRuns.nd rfl (.inl rfl) (pe_own C__law_take hr (by rfl) (pa_cons (pv 0) (pa_cons pe_int pa_nil))))
        (pss_cons (ps_set (i := 7) scRuns.nd rfl (.inl rfl) (pe_own C__law_take hr (by rfl) (pa_cons (pv 0) (pa_cons (pe_op op_add (pv 2) pe_int) pa_nil))))
        (pss_cons (ps_set (i := 8) scRuns.nd rfl (.inl rfl) (pe_callB (call_min2 rfl) (by rfl) m_min (by decide +kernel) (pa_cons (pv 2) (pa_cons (pe_op op_add (pv 7) (pe_own C__law_take hr (by rfl) (pa_cons (pv 0) (pa_cons (pv 3) pa_nil)))) pa_nil))))
        (Evl.pss_cut (ps_if (PW.pt (pw_and (pt_cmpR op_eq (pv 6) pe_int (nomark _)) (pw_and1 (pt_cmpR (op_neD hr.units) (pv 4) (pe_lst pa_nil) (nomark _))))) (pss_one (ps_asg (pe_ix ix_list (pv 4) (pe_own C__law_take hr (by rfl) (pa_cons (pv 0) (pa_cons (pe_callB call_len_seq (by rfl) m_len PySem.boot_len (pa_cons (pv 4) pa_nil)) pa_nil))) (fun _ _ => rfl)) (pg_tup rfl (pgs_cons (pg_name (i := 7) scRuns.nd rfl (.inl rfl)) (pgs_cons (pg_name (i := 8) scRuns.nd rfl (.inl rfl)) pgs_nil)))))
          pss_nil)
        (Evl.pss_cut (ps_if (PW.pt (pw_and (pt_cmpR op_eq (pv 6) pe_int (nomark _)) (pw_and1 (pt_cmpR (op_neD hr.units) (pv 4) (pe_lst pa_nil) (nomark _))))) (pss_cons (ps_set (i := 7) scRuns.nd rfl (.inl rfl) (pe_callB (call_min2 rfl) (by rfl) m_min (by decide +kernel) (pa_cons (pv 2) (pa_cons (pe_op op_add (pe_ix ix_tup (pe_ix ix_list (pv 4) (pe_un un_neg pe_int) (fun _ _ => rfl)) pe_int (fun _ _ => rfl)) (pe_own C__law_take hr (by rfl) (pa_cons (pv 0) (pa_cons pe_int pa_nil)))) pa_nil))))
          (pss_one (ps_set (i := 8) scRuns.nd rfl (.inl rfl) (pe_callB (call_min2 rfl) (by rfl) m_min (by decide +kernel) (pa_cons (pv 2) (pa_cons (pe_op op_add (pv 7) (pe_own C__law_take hr (by rfl) (pa_cons (pv 0) (pa_cons (pv 3) pa_nil)))) pa_nil))))))
          pss_nil)
        (pss_one (ps_expr (pe_bm PySem.F.plainAttrs_list PySem.F.slot_list_append PySem.F.type_list_append mt_append (pv 4) (pa_cons (pe_tup (pa_cons (pv 7) (pa_cons (pv 8) pa_nil))) pa_nil))))))))))
      (pss_one (ps_ret (pv 4)))), ?_⟩
    refine ⟨Nat.zero_le _, fun p np => ?_⟩
    have sp := same_upd (o := .lst []) np
    have offp := hS.off np
    refine ⟨_, rfl, many, rfl, by omega, by omega, for_range (n := many.toNat) (fun i σ Hx => ∃ (rs : List (Int × Int)) (t' : Int) (y5 y6 y7 y8 : Option V), σ = [some (.ref d), some (.int many), some (.int most), some (.int wide), some (.ref p), y5, y6, y7, y8] ∧ LsA Hx p rs ∧ RunOk most rs ∧ rs.length = i ∧ t ≤ t' ∧ t' ≤ t + 10 * (i : Int) ∧ StAt Hx d c t' ∧ Kp d c H Hx) ⟨[], t, _, _, _, _, rfl, LsA.nil upd_same, (fun _ h => nomatch h), rfl, by omega, by omega, hS.same sp, Kp.same d c sp⟩ (fun i σ Hx hi hP => ?_) (fun σ Hx hP => ?_)⟩
    · obtain ⟨rs, t', y5, y6, y7, y8, rfl, hL, hro, hl, u0, u1, hS2, k2⟩ := hP
      refine ⟨_, rfl, d, c, t', 5, rfl, hS2, by omega, by decide, by decide, fun kd H3 kd0 kd1 hS3 k3 => ?_⟩
      refine ⟨_, rfl, _, rfl, _, _, rfl, rfl, d, c, t' + 1, most + 1, rfl, hS3, by omega, by omega, by omega, fun fi H4 fi0 fi1 hS4 k4 => ?_⟩
      refine ⟨_, rfl, _, rfl, _, rfl, _, rfl, d, c, t' + 1 + 1, wide, rfl, hS4, by omega, by omega, by omega, fun wi H5 wi0 wi1 hS5 k5 => ⟨_, _, rfl, rfl, _, _, rfl, ?_⟩⟩
      have hL5 := ((hL.kp hS2 k3 offp).kp hS3 k4 offp).kp hS4 k5 offp
      have k25 := (k3.trans k4).trans k5
      have mn : ∀ a b : Int, a ≤ most → 0 ≤ b → a ≤ (if a + b < most then a + b else most) ∧ (if a + b < most then a + b else most) ≤ most := fun a b h1 h2 => by split <;> omega
      refine ⟨fun σ' H' => ∃ (f l t3 : Int), σ' = [some (.ref d), some (.int many), some (.int most), some (.int wide), some (.ref p), some (.int (0 + (i : Int))), some (.int kd), some (.int f), some (.int l)] ∧ 0 ≤ f ∧ f ≤ l ∧ l ≤ most ∧ LsA H' p rs ∧ t' ≤ t3 ∧ t3 ≤ t' + 4 ∧ StAt H' d c t3 ∧ Kp d c H H', ?_, ?_⟩
      · have skip : ∀ H', Same H5 H' → ∃ (f l t3 : Int), [some (V.ref d), some (.int many), some (.int most), some (.int wide), some (.ref p), some (.int (0 + (i : Int))), some (.int kd), some (.int fi), some (.int (if fi + wi < most then fi + wi else most))] = [some (.ref d), some (.int many), some (.int most), some (.int wide), some (.ref p), some (.int (0 + (i : Int))), some (.int kd), some (.int f), some (.int l)] ∧ 0 ≤ f ∧ f ≤ l ∧ l ≤ most ∧ LsA H' p rs ∧ t' ≤ t3 ∧ t3 ≤ t' + 4 ∧ StAt H' d c t3 ∧ Kp d c H H' := fun H' s' => ⟨fi, _, t' + 1 + 1 + 1, rfl, fi0, (mn fi wi (by omega) wi0).1, (mn fi wi (by omega) wi0).2, hL5.same s', by omega, by omega, hS5.same s', (k2.trans k25).trans (Kp.same d c s')⟩
        refine ⟨_, rfl, rfl, _, rfl, ite2 (fun c1 => ?_) (fun c1 => ite2 (fun z => nomatch z) (fun _ => skip H5 (Same.refl _)))⟩
        refine ⟨_, rfl, Nat.zero_le _, fun n nn => ?_⟩
        have sn := same_upd (o := .lst []) nn
        refine ne_nilP (hL5.same sn) upd_same ⟨_, rfl, ite2 (fun c2 => ?_) (fun c2 => skip _ sn)⟩
        have pos : 0 < rs.length := by
          cases rs with
          | nil => cases c2
          | cons => simp
        have hL6 := hL5.same sn
        have hS6 := hS5.same sn
        obtain ⟨us, ep, hpr⟩ := id hL6
        have lu := hpr.1
        refine ⟨_, rfl, _, rfl, _, rfl, p, _, rfl, .inl (SqL.of ep), d, c, t' + 1 + 1 + 1, (rs.length : Int), by rw [lu]; rfl, hS6, by omega, by omega, by omega, fun r H6 r0 r1 hS7 k7 => ?_⟩
        obtain ⟨v, ev, hv⟩ := pick_at (xs := us) (n := rs.length) lu r0 r1
        obtain ⟨j, hj⟩ := List.getElem?_of_mem hv
        obtain ⟨g, T, eg, rfl, eT⟩ := prs_at hpr hj
        have eT6 := (hpr.kp hS6 k7)
        obtain ⟨g', T', eg', z', eT'⟩ := prs_at eT6 hj
        cases z'
        rw [eg] at eg'
        cases eg'
        obtain ⟨g0, g1, g2⟩ := hro g (List.mem_of_getElem? eg)
        refine ⟨p, _, r, _, rfl, rfl, SqL.of (k7 _ _ offp.1 offp.2 ep), ev, T, _, rfl, .inl (.inl eT'), rfl, _, _, rfl, _, _, rfl, rfl, ?_⟩
        exact ⟨g.1, g.2, t' + 1 + 1 + 1 + 1, rfl, g0, g1, g2, hL6.kp hS6 k7 offp, by omega, by omega, hS7, ((k2.trans k25).trans (Kp.same d c sn)).trans k7⟩
      rintro σ6 H6 ⟨f1, l1, t6, rfl, f10, f11, f12, hL6, v0, v1, hS6, k6⟩
      refine ⟨fun σ' H' => ∃ (f l t3 : Int), σ' = [some (.ref d), some (.int many), some (.int most), some (.int wide), some (.ref p), some (.int (0 + (i : Int))), some (.int kd), some (.int f), some (.int l)] ∧ 0 ≤ f ∧ f ≤ l ∧ l ≤ most ∧ LsA H' p rs ∧ t' ≤ t3 ∧ t3 ≤ t' + 8 ∧ StAt H' d c t3 ∧ Kp d c H H', ?_, ?_⟩
      · have skip : ∀ H', Same H6 H' → ∃ (f l t3 : Int), [some (V.ref d), some (.int many), some (.int most), some (.int wide), some (.ref p), some (.int (0 + (i : Int))), some (.int kd), some (.int f1), some (.int l1)] = [some (.ref d), some (.int many), some (.int most), some (.int wide), some (.ref p), some (.int (0 + (i : Int))), some (.int kd), some (.int f), some (.int l)] ∧ 0 ≤ f ∧ f ≤ l ∧ l ≤ most ∧ LsA H' p rs ∧ t' ≤ t3 ∧ t3 ≤ t' + 8 ∧ StAt H' d c t3 ∧ Kp d c H H' := fun H' s' => ⟨f1, l1, t6, rfl, f10, f11, f12, hL6.same s', by omega, by omega, hS6.same s', k6.trans (Kp.same d c s')⟩
        refine ⟨_, rfl, rfl, _, rfl, ite2 (fun c1 => ?_) (fun c1 => ite2 (fun z => nomatch z) (fun _ => skip H6 (Same.refl _)))⟩
        refine ⟨_, rfl, Nat.zero_le _, fun n nn => ?_⟩
        have sn := same_upd (o := .lst []) nn
        refine ne_nilP (hL6.same sn) upd_same ⟨_, rfl, ite2 (fun c2 => ?_) (fun c2 => skip _ sn)⟩
        have hne : rs ≠ [] := fun z => by rw [z] at c2; cases c2
        have hL7 := hL6.same sn
        have hS7 := hS6.same sn
        obtain ⟨us, ep, hpr⟩ := id hL7
        obtain ⟨rs', g, rfl⟩ : ∃ rs' g, rs = rs' ++ [g] := ⟨_, _, (List.dropLast_concat_getLast hne).symm⟩
        obtain ⟨us', T, rfl, eT, _⟩ := hpr.last
        obtain ⟨g0, g1, g2⟩ := hro g (List.mem_append_right _ (List.mem_singleton.mpr rfl))
        have em : atI (us' ++ [V.ref T]) (-1) = some (.ref T) := atI_last _ _
        refine ⟨_, rfl, _, rfl, 1, rfl, p, _, -1, _, rfl, rfl, SqL.of ep, em, ?_⟩
        refine ⟨T, _, 1, _, rfl, rfl, .inl (.inl eT), atI_nat (j := 1) rfl, ?_⟩
        refine ⟨_, rfl, d, c, t6, 2, rfl, hS7, by omega, by decide, by decide, fun r2 H8 r20 r21 hS8 k8 => ⟨_, _, rfl, rfl, _, _, rfl, ?_⟩⟩
        refine ⟨_, rfl, _, rfl, _, rfl, _, rfl, d, c, t6 + 1, wide, rfl, hS8, by omega, by omega, by omega, fun r3 H9 r30 r31 hS9 k9 => ⟨_, _, rfl, rfl, _, _, rfl, ?_⟩⟩
        have mm : ∀ x : Int, 0 ≤ x → 0 ≤ (if x < most then x else most) ∧ (if x < most then x else most) ≤ most := fun x h => by split <;> omega
        have m2 := mm (g.2 + r2) (by omega)
        exact ⟨_, _, t6 + 1 + 1, rfl, m2.1, (mn _ r3 m2.2 r30).1, (mn _ r3 m2.2 r30).2, (hL7.kp hS7 k8 offp).kp hS8 k9 offp, by omega, by omega, hS9, ((k6.trans (Kp.same d c sn)).trans k8).trans k9⟩
      rintro σ7 H7 ⟨f2, l2, t7, rfl, f20, f21, f22, hL7, v20, v21, hS7, k7⟩
      obtain ⟨us, ep, hpr⟩ := hL7
      refine ⟨_, rfl, .inl ⟨rfl, _, SqL.of ep⟩, _, rfl, _, rfl, (by show 2 ≤ sizeLine; decide), fun T nT => ?_⟩
      have sT := same_upd (o := .tup [.int f2, .int l2]) nT
      have lu := hpr.1
      refine ⟨p, _, _, rfl, rfl, sT _ _ ep, small1000 (by omega), ?_⟩
      refine ⟨rs ++ [(f2, l2)], t7, _, _, _, _, rfl, ⟨_, upd_same, ((hpr.same sT).snoc upd_same).upd_lst (sT _ _ ep)⟩, fun r hr' => ?_, by rw [List.length_append]; show rs.length + 1 = _; omega, by omega, by omega, (hS7.same sT).upd offp.1 offp.2, fun b o b1 b2 e => ?_⟩
      · rcases List.mem_append.mp hr' with z | z
        · exact hro r z
        · rw [List.mem_singleton.mp z]; exact ⟨f20, f21, f22⟩
      · rw [upd_ne (ne_of_none e np)]
        exact sT _ _ (k7 b o b1 b2 e)
    · obtain ⟨rs, t', y5, y6, y7, y8, rfl, hL, hro, hl, u0, u1, hS2, k2⟩ := hP
      exact ⟨_, rfl, q p rs Hx t' np hL hro (by omega) u0 (by omega) hS2 k2⟩
end

/-! ### fewest by trying -/
/-- truths, one for each item -/
theorem lc_bs {K : PySem.W.Frag} {a : Addr} {xs : List V} {g : TG} {tt : TT} {te : TE} {vs : List Nat} {σ : L2.St} {H1 : Hp} {D : Addr} {Qd : Hp → Prop} (bs : List Bool) (nD : H1 D = none) (ea : H1 a = some (.lst xs)) (hl : bs.length = xs.length) (hz : xs.length ≤ 1000)
    (turn : ∀ (i : Nat) (x : V) (b : Bool) (H : Hp) (Kt : V → Hp → Prop) (Kn : Hp → Prop), xs[i]? = some x → bs[i]? = some b → Same H1 H → (∀ H4, Same H H4 → Kt (.bl b) H4) → g x (wipe σ vs) H fun σ2 H2 => wipe σ2 vs = wipe σ vs ∧ tt σ2 H2 fun b H3 => if b = true then te σ2 H3 Kt else Kn H3)
    (fin : ∀ H, Same H1 H → H D = some (.lst (bs.map V.bl)) → Qd H) : LcW (Itl K a) g tt te vs σ D Qd H1 := by
  refine lc_it walk_list (fun j H => Same H1 H ∧ H D = some (.lst ((bs.take j).map V.bl))) ⟨same_upd nD, upd_same⟩ (fun i H _ p => SqL.of (p.1 _ _ ea)) (fun i x H H' hi hP hy => ?_) (fun H hP => ?_)
  · obtain ⟨sm, eD⟩ := hP
    obtain ⟨rfl, hx⟩ := hy
    have hb : bs[i]? = some bs[i] := List.getElem?_eq_getElem (by omega)
    refine turn i x _ H' _ _ hx hb sm fun H4 s4 => ⟨_, s4 _ _ eD, Nat.lt_of_lt_of_le (show _ < 1000 by rw [List.length_map, List.length_take]; omega) (by decide), fun b o e => ?_, ?_⟩
    · rw [upd_ne (ne_of_none e nD)]
      exact s4 _ _ (sm b o e)
    · rw [upd_same, List.take_add_one, hb, List.map_append]
      rfl
  · obtain ⟨sm, eD⟩ := hP
    rw [← hl, List.take_length] at eD
    exact fin H sm eD

/-! ### samples: what is fewest -/
theorem ris_last {lo : Int} : ∀ {rs : List (Int × Int)} {q : Int × Int}, Ris lo (rs ++ [q]) → ∀ n, InS (rs ++ [q]) n → n ≤ q.2 := fun {rs q} h n hn => by
  obtain ⟨_, h2, _, h4⟩ := Ris.front h
  rcases inS_append.mp hn with ⟨p, hp, e1, e2⟩ | ⟨p, hp, e1, e2⟩
  · have := h2 p hp; omega
  · rw [List.mem_singleton.mp hp] at e2; exact e2
/-- the least and the greatest of a set -/
theorem told_ends {pr : Int → Prop} {rs : List (Int × Int)} (h : Told pr rs) (hne : rs ≠ []) : ∃ p q : Int × Int, rs[0]? = some p ∧ rs[rs.length - 1]? = some q ∧ pr p.1 ∧ pr q.2 ∧ ∀ n, pr n → p.1 ≤ n ∧ n ≤ q.2 := by
  obtain ⟨lo, hr⟩ := h.ris
  have hl := List.dropLast_concat_getLast hne
  cases rs with
  | nil => exact absurd rfl hne
  | cons p r =>
    refine ⟨p, (p :: r).getLast hne, rfl, ?_, ?_, ?_, fun n hn => ?_⟩
    · rw [← List.getLast?_eq_getElem?, List.getLast?_eq_some_getLast hne]
    · exact (h.same _).mp ⟨p, List.mem_cons_self .., Int.le_refl _, hr.2.1⟩
    · refine (h.same _).mp ⟨_, List.getLast_mem hne, ?_, Int.le_refl _⟩
      rw [← hl] at hr
      exact (Ris.front hr).2.2.2
    · have hi := (h.same n).mpr hn
      refine ⟨?_, ?_⟩
      · rcases inS_cons.mp hi with z | z
        · exact z.1
        · have := hr.2.2.low z
          have := hr.2.1
          omega
      · rw [← hl] at hr hi
        exact ris_last hr n hi
theorem told_nil {pr : Int → Prop} {rs : List (Int × Int)} (h : Told pr rs) : rs = [] ↔ ∀ n, ¬ pr n := by
  constructor
  · intro e n hn
    have := (h.same n).mpr hn
    rw [e] at this
    exact inS_nil this
  · intro hn
    cases rs with
    | nil => rfl
    | cons p r =>
      obtain ⟨lo, hr⟩ := h.ris
      exact absurd ((h.same p.1).mp ⟨p, List.mem_cons_self .., Int.le_refl _, hr.2.1⟩) (hn _)
/-- the numbers taken so far, the runs that asked for them -/
structure Gr (L : Nat → Int × Int) (os : List Nat) (ns : List Int) (ch : List Nat) : Prop where
  map : ns = ch.map fun i => (L i).2
  sub : ∀ i ∈ ch, i ∈ os
  chain : ch.Pairwise fun i j => (L i).2 < (L j).1
  hit : ∀ i ∈ os, ∃ e ∈ ns, (L i).1 ≤ e ∧ e ≤ (L i).2
  inc : ns.Pairwise (· < ·)
theorem Gr.nil (L : Nat → Int × Int) : Gr L [] [] [] := ⟨rfl, (fun _ h => nomatch h), .nil, (fun _ h => nomatch h), .nil⟩
theorem Gr.skip {L : Nat → Int × Int} {os : List Nat} {ns : List Int} {ch : List Nat} {i : Nat} {e : Int} (g : Gr L os ns ch) (hm : ∀ j ∈ os, (L j).2 ≤ (L i).2) (he : e ∈ ns) (hi : (L i).1 ≤ e) : Gr L (os ++ [i]) ns ch := by
  refine ⟨g.map, fun j hj => List.mem_append_left _ (g.sub j hj), g.chain, fun j hj => ?_, g.inc⟩
  rcases List.mem_append.mp hj with z | z
  · exact g.hit j z
  · rw [List.mem_singleton.mp z]
    refine ⟨e, he, hi, ?_⟩
    rw [g.map] at he
    obtain ⟨j, hj, rfl⟩ := List.mem_map.mp he
    exact hm j (g.sub j hj)
theorem Gr.take {L : Nat → Int × Int} {os : List Nat} {ns : List Int} {ch : List Nat} {i : Nat} (g : Gr L os ns ch) (hi : (L i).1 ≤ (L i).2) (lt : ∀ e ∈ ns, e < (L i).1) : Gr L (os ++ [i]) (ns ++ [(L i).2]) (ch ++ [i]) := by
  refine ⟨by rw [g.map, List.map_append]; rfl, fun j hj => ?_, ?_, fun j hj => ?_, ?_⟩
  · rcases List.mem_append.mp hj with z | z
    · exact List.mem_append_left _ (g.sub j z)
    · exact List.mem_append_right _ z
  · rw [List.pairwise_append]
    refine ⟨g.chain, List.pairwise_singleton _ _, fun a ha b hb => ?_⟩
    rw [List.mem_singleton.mp hb]
    exact lt _ (by rw [g.map]; exact List.mem_map_of_mem ha)
  · rcases List.mem_append.mp hj with z | z
    · obtain ⟨e, he, h1⟩ := g.hit j z
      exact ⟨e, List.mem_append_left _ he, h1⟩
    · rw [List.mem_singleton.mp z]
      exact ⟨_, List.mem_append_right _ (List.mem_singleton.mpr rfl), hi, Int.le_refl _⟩
  · rw [List.pairwise_append]
    refine ⟨g.inc, List.pairwise_singleton _ _, fun a ha b hb => ?_⟩
    rw [List.mem_singleton.mp hb]
    have := lt a ha
    omega
theorem chain_some {L : Nat → Int × Int} {row : List Int} : ∀ {ch : List Nat}, ch.Pairwise (fun i j => (L i).2 < (L j).1) → (∀ i ∈ ch, ∃ e ∈ row, (L i).1 ≤ e ∧ e ≤ (L i).2) → ∃ es : List Int, es.length = ch.length ∧ (∀ e ∈ es, e ∈ row) ∧ es.Pairwise (· < ·) ∧ ∀ e ∈ es, ∃ i ∈ ch, (L i).1 ≤ e
  | [], _, _ => ⟨[], rfl, (fun _ h => nomatch h), .nil, (fun _ h => nomatch h)⟩
  | i :: ch, hc, h => by
    obtain ⟨h1, h2⟩ := List.pairwise_cons.mp hc
    obtain ⟨es, l, a, b, c⟩ := chain_some h2 fun j hj => h j (List.mem_cons_of_mem _ hj)
    obtain ⟨e, he, e1, e2⟩ := h i (List.mem_cons_self ..)
    refine ⟨e :: es, by rw [List.length_cons, List.length_cons, l], fun x hx => ?_, List.pairwise_cons.mpr ⟨fun x hx => ?_, b⟩, fun x hx => ?_⟩
    · rcases List.mem_cons.mp hx with z | z
      · rw [z]; exact he
      · exact a x z
    · obtain ⟨j, hj, lj⟩ := c x hx
      have := h1 j hj
      omega
    · rcases List.mem_cons.mp hx with z | z
      · exact ⟨i, List.mem_cons_self .., by rw [z]; exact e1⟩
      · obtain ⟨j, hj, lj⟩ := c x z
        exact ⟨j, List.mem_cons_of_mem _ hj, lj⟩
theorem Gr.low {L : Nat → Int × Int} {os : List Nat} {ns : List Int} {ch : List Nat} (g : Gr L os ns ch) {row : List Int} (h : ∀ i ∈ os, ∃ e ∈ row, (L i).1 ≤ e ∧ e ≤ (L i).2) : ns.length ≤ row.length := by
  obtain ⟨es, l, a, b, _⟩ := chain_some g.chain fun i hi => h i (g.sub i hi)
  rw [g.map, List.length_map, ← l]
  exact nodup_len (List.Pairwise.imp (fun z => by omega) b) a
/-- every choice among so many numbers -/
def rowsF (fr : List Int) : List (List Int) := fr.foldl (fun some n => some ++ some.map (· ++ [n])) [[]]
theorem rowsF_snoc (fr : List Int) (n : Int) : rowsF (fr ++ [n]) = rowsF fr ++ (rowsF fr).map (· ++ [n]) := by simp [rowsF]
theorem rows_from : ∀ (fr : List Int) (acc : List (List Int)) (row : List Int), row ∈ fr.foldl (fun some n => some ++ some.map (· ++ [n])) acc → ∃ r ∈ acc, ∃ s, row = r ++ s ∧ ∀ e ∈ s, e ∈ fr
  | [], _, row, h => ⟨row, h, [], by simp, fun _ h => nomatch h⟩
  | n :: fr, acc, row, h => by
    obtain ⟨r, hr, s, e, hs⟩ := rows_from fr _ row h
    rcases List.mem_append.mp hr with z | z
    · exact ⟨r, z, s, e, fun x hx => List.mem_cons_of_mem _ (hs x hx)⟩
    · obtain ⟨r', hr', rfl⟩ := List.mem_map.mp z
      refine ⟨r', hr', n :: s, by rw [e]; simp, fun x hx => ?_⟩
      rcases List.mem_cons.mp hx with y | y
      · rw [y]; exact List.mem_cons_self ..
      · exact List.mem_cons_of_mem _ (hs x y)
theorem rows_mem {fr row : List Int} (h : row ∈ rowsF fr) : ∀ e ∈ row, e ∈ fr := by
  obtain ⟨r, hr, s, rfl, hs⟩ := rows_from fr _ row h
  rw [List.mem_singleton.mp hr]
  exact hs
theorem rows_all (p : Int → Bool) : ∀ (fr : List Int) (acc : List (List Int)) (r : List Int), r ∈ acc → r ++ fr.filter p ∈ fr.foldl (fun some n => some ++ some.map (· ++ [n])) acc
  | [], _, r, h => by simpa using h
  | n :: fr, acc, r, h => by
    by_cases hp : p n = true
    · rw [List.filter_cons_of_pos hp, show r ++ n :: fr.filter p = (r ++ [n]) ++ fr.filter p by simp]
      exact rows_all p fr _ _ (List.mem_append_right _ (List.mem_map_of_mem h))
    · rw [List.filter_cons_of_neg hp]
      exact rows_all p fr _ _ (List.mem_append_left _ h)
theorem rows_filter (fr : List Int) (p : Int → Bool) : fr.filter p ∈ rowsF fr := by
  have := rows_all p fr [[]] [] (List.mem_singleton.mpr rfl)
  rw [List.nil_append] at this
  exact this
theorem inc_eq : ∀ {l m : List Int}, l.Pairwise (· < ·) → m.Pairwise (· < ·) → (∀ x, x ∈ l ↔ x ∈ m) → l = m
  | [], [], _, _, _ => rfl
  | [], y :: m, _, _, h => absurd ((h y).mpr (List.mem_cons_self ..)) (List.not_mem_nil)
  | x :: l, [], _, _, h => absurd ((h x).mp (List.mem_cons_self ..)) (List.not_mem_nil)
  | x :: l, y :: m, hl, hm, h => by
    obtain ⟨l1, l2⟩ := List.pairwise_cons.mp hl
    obtain ⟨m1, m2⟩ := List.pairwise_cons.mp hm
    have exy : x = y := by
      rcases List.mem_cons.mp ((h x).mp (List.mem_cons_self ..)) with z | z
      · exact z
      · rcases List.mem_cons.mp ((h y).mpr (List.mem_cons_self ..)) with w | w
        · exact w.symm
        · have := m1 x z
          have := l1 y w
          omega
    subst exy
    rw [inc_eq l2 m2 fun z => ⟨fun hz => ?_, fun hz => ?_⟩]
    · rcases List.mem_cons.mp ((h z).mp (List.mem_cons_of_mem _ hz)) with w | w
      · have := l1 z hz
        omega
      · exact w
    · rcases List.mem_cons.mp ((h z).mpr (List.mem_cons_of_mem _ hz)) with w | w
      · have := m1 z hz
        omega
      · exact w
theorem rows_inc {fr ns : List Int} (hf : fr.Pairwise (· < ·)) (hn : ns.Pairwise (· < ·)) (h : ∀ e ∈ ns, e ∈ fr) : ns ∈ rowsF fr := by
  have e : fr.filter (fun x => decide (x ∈ ns)) = ns := inc_eq (List.Pairwise.filter _ hf) hn fun x => by
    rw [List.mem_filter, decide_eq_true_iff]
    exact ⟨fun z => z.2, fun z => ⟨h x z, z⟩⟩
  rw [← e]
  exact rows_filter fr _
/-- every run has one of the row's numbers -/
def hitsAll (rs : List (Int × Int)) (row : List Int) : Prop := ∀ r ∈ rs, ∃ e ∈ row, r.1 ≤ e ∧ e ≤ r.2

/-! ### the cheapest places -/
/-- how far back the place ahead of s may lie -/
structure BackAt (rs : List (Int × Int)) (s b : Int) : Prop where
  lo : 0 ≤ b
  all : ∀ r ∈ rs, r.2 + 2 ≤ s → r.1 + 1 ≤ b
  one : b = 0 ∨ ∃ r ∈ rs, r.2 + 2 ≤ s ∧ b = r.1 + 1
theorem BackAt.lt {rs : List (Int × Int)} {s b : Int} (h : BackAt rs s b) (hr : ∀ r ∈ rs, r.1 ≤ r.2) (hs : 1 ≤ s) : b < s := by
  rcases h.one with z | ⟨r, h1, h2, h3⟩
  · omega
  · have := hr r h1
    omega
/-- places from the last to the first, each no further back than may be -/
def Way (rs : List (Int × Int)) : Int → List Int → Prop
  | s, [] => BackAt rs s 0
  | s, x :: l => x + 1 < s ∧ 0 ≤ x ∧ (∃ b, BackAt rs s b ∧ b ≤ x + 1) ∧ Way rs (x + 1) l
theorem BackAt.eq {rs : List (Int × Int)} {s b b' : Int} (h : BackAt rs s b) (h' : BackAt rs s b') : b = b' := by
  have a1 : b ≤ b' := by
    rcases h.one with z | ⟨r, h1, h2, h3⟩
    · have := h'.lo; omega
    · have := h'.all r h1 h2; omega
  have a2 : b' ≤ b := by
    rcases h'.one with z | ⟨r, h1, h2, h3⟩
    · have := h.lo; omega
    · have := h.all r h1 h2; omega
  omega
/-- each run that ends ahead of s has one of l -/
def HitB (rs : List (Int × Int)) (s : Int) (l : List Int) : Prop := ∀ r ∈ rs, r.2 + 2 ≤ s → ∃ x ∈ l, r.1 ≤ x ∧ x ≤ r.2
theorem Way.hit {rs : List (Int × Int)} : ∀ {l : List Int} {s : Int}, (∀ r ∈ rs, 0 ≤ r.1) → Way rs s l → HitB rs s l
  | [], s, h0, h => fun r hr e => by
    have := h.all r hr e
    have := h0 r hr
    omega
  | x :: l, s, h0, h => fun r hr e => by
    obtain ⟨h1, h2, ⟨b, hb, hx⟩, h4⟩ := h
    by_cases c : r.2 + 2 ≤ x + 1
    · obtain ⟨y, hy, e1⟩ := Way.hit h0 h4 r hr c
      exact ⟨y, List.mem_cons_of_mem _ hy, e1⟩
    · have := hb.all r hr e
      exact ⟨x, List.mem_cons_self .., by omega, by omega⟩
theorem back_ex (rs : List (Int × Int)) (h0 : ∀ r ∈ rs, 0 ≤ r.1) (s : Int) : ∃ b, BackAt rs s b := by
  induction rs with
  | nil => exact ⟨0, Int.le_refl _, (fun _ h => nomatch h), .inl rfl⟩
  | cons r rs ih =>
    obtain ⟨b, hb⟩ := ih fun x hx => h0 x (List.mem_cons_of_mem _ hx)
    have hr0 := h0 r (List.mem_cons_self ..)
    by_cases c : r.2 + 2 ≤ s ∧ b < r.1 + 1
    · refine ⟨r.1 + 1, by omega, fun x hx e => ?_, .inr ⟨r, List.mem_cons_self .., c.1, rfl⟩⟩
      rcases List.mem_cons.mp hx with z | z
      · rw [z]; omega
      · have := hb.all x z e; omega
    · refine ⟨b, hb.lo, fun x hx e => ?_, ?_⟩
      · rcases List.mem_cons.mp hx with z | z
        · rw [z] at e ⊢; omega
        · exact hb.all x z e
      · rcases hb.one with z | ⟨x, h1, h2, h3⟩
        · exact .inl z
        · exact .inr ⟨x, List.mem_cons_of_mem _ h1, h2, h3⟩
/-- falling, all within -/
def Fall : Int → List Int → Prop
  | _, [] => True
  | s, x :: l => x + 1 < s ∧ 0 ≤ x ∧ Fall (x + 1) l
theorem Fall.lt : ∀ {l : List Int} {s : Int}, Fall s l → ∀ x ∈ l, x + 1 < s
  | y :: l, s, h, x, hx => by
    rcases List.mem_cons.mp hx with z | z
    · rw [z]; exact h.1
    · have := Fall.lt h.2.2 x z
      have := h.1
      omega
theorem Way.fall {rs : List (Int × Int)} : ∀ {l : List Int} {s : Int}, Way rs s l → Fall s l
  | [], _, _ => trivial
  | _ :: _, _, h => ⟨h.1, h.2.1, Way.fall h.2.2.2⟩
theorem Way.of {rs : List (Int × Int)} (h0 : ∀ r ∈ rs, 0 ≤ r.1) : ∀ {l : List Int} {s : Int}, Fall s l → HitB rs s l → Way rs s l
  | [], s, _, h => ⟨Int.le_refl _, fun r hr e => (let ⟨_, hx, _⟩ := h r hr e; nomatch hx), .inl rfl⟩
  | x :: l, s, f, h => by
    obtain ⟨b, hb⟩ := back_ex rs h0 s
    refine ⟨f.1, f.2.1, ⟨b, hb, ?_⟩, Way.of h0 f.2.2 fun r hr e => ?_⟩
    · rcases hb.one with z | ⟨r, h1, h2, h3⟩
      · have := f.2.1; omega
      · obtain ⟨y, hy, e1, e2⟩ := h r h1 h2
        rcases List.mem_cons.mp hy with z | z
        · rw [z] at e1; omega
        · have := Fall.lt f.2.2 y z; omega
    · obtain ⟨y, hy, e1, e2⟩ := h r hr (by have := f.1; omega)
      rcases List.mem_cons.mp hy with z | z
      · rw [z] at e2; omega
      · exact ⟨y, z, e1, e2⟩
/-- what places cost -/
def costF (pr : Int → Int) (l : List Int) : Int := (l.map pr).sum
/-- the least costs up to the k-th spot: c of a spot with its own price, back where it comes from -/
structure Costs (rs : List (Int × Int)) (pr : Int → Int) (k : Int) (c back : Int → Int) : Prop where
  zero : c 0 = 0
  from_ : ∀ s, 1 ≤ s → s ≤ k → 0 ≤ back s ∧ back s < s ∧ (∃ b, BackAt rs s b ∧ b ≤ back s) ∧ c s = c (back s) + pr (s - 1)
  least : ∀ s, 1 ≤ s → s ≤ k → ∀ b o, BackAt rs s b → b ≤ o → o < s → c s ≤ c o + pr (s - 1)
theorem Costs.low {rs : List (Int × Int)} {pr : Int → Int} {k : Int} {c back : Int → Int} (C : Costs rs pr k c back) : ∀ {l : List Int} {s : Int}, 1 ≤ s → s ≤ k → Way rs s l → c s ≤ costF pr l + pr (s - 1)
  | [], s, h1, h2, h => by
    have := C.least s h1 h2 0 0 h (Int.le_refl _) (by omega)
    have := C.zero
    show c s ≤ 0 + _
    omega
  | x :: l, s, h1, h2, h => by
    obtain ⟨e1, e2, ⟨b, hb, hx⟩, h4⟩ := h
    have a1 := C.least s h1 h2 b (x + 1) hb hx e1
    have a2 := C.low (l := l) (s := x + 1) (by omega) (by omega) h4
    have e : x + 1 - 1 = x := by omega
    rw [e] at a2
    show c s ≤ (pr x + costF pr l) + _
    omega
/-- the way back from a spot -/
theorem Costs.way {rs : List (Int × Int)} {pr : Int → Int} {k : Int} {c back : Int → Int} (C : Costs rs pr k c back) {l : List Int} {s : Int} (h1 : 1 ≤ s) (h2 : s ≤ k) (h : if back s = 0 then l = [] else ∃ l', l = (back s - 1) :: l' ∧ Way rs (back s) l' ∧ costF pr l' + pr (back s - 1) = c (back s)) : Way rs s l ∧ costF pr l + pr (s - 1) = c s := by
  obtain ⟨f1, f2, ⟨b, hb, f3⟩, f4⟩ := C.from_ s h1 h2
  split at h
  · next z =>
    subst h
    rw [z] at f3 f4
    have b0 : b = 0 := by have := hb.lo; omega
    subst b0
    refine ⟨hb, ?_⟩
    have := C.zero
    show 0 + _ = _
    omega
  · next z =>
    obtain ⟨l', rfl, hw, hc⟩ := h
    refine ⟨⟨by omega, by omega, ⟨b, hb, by omega⟩, by rw [show back s - 1 + 1 = back s by omega]; exact hw⟩, ?_⟩
    show (pr (back s - 1) + costF pr l') + _ = _
    omega

/-! ### dues: as much as any choice of places costs -/
abbrev inR (r : Int × Int) (p : Int) : Prop := r.1 ≤ p ∧ p ≤ r.2
/-- what is left behind a due -/
def subF (left : Int → Int) (r : Int × Int) (d : Int) : Int → Int := fun p => if inR r p then left p - d else left p
/-- each due is the least that is left in its run -/
def Greedy : (Int → Int) → List ((Int × Int) × Int) → Prop
  | _, [] => True
  | left, (r, d) :: l => (∃ p, inR r p ∧ left p = d) ∧ (∀ p, inR r p → d ≤ left p) ∧ Greedy (subF left r d) l
theorem sub_nn {left : Int → Int} {r : Int × Int} {d : Int} {B : Int → Prop} (h : ∀ p, inR r p → d ≤ left p) (h0 : ∀ p, B p → 0 ≤ left p) : ∀ p, B p → 0 ≤ subF left r d p := fun p hp => by
  unfold subF
  split
  · rename_i c
    have := h p c
    omega
  · exact h0 p hp
theorem costF_cons' (pr : Int → Int) (x : Int) (l : List Int) : costF pr (x :: l) = pr x + costF pr l := rfl
/-- those of no run cost the same -/
theorem cost_out {left : Int → Int} {r : Int × Int} {d : Int} : ∀ {l : List Int}, (∀ p ∈ l, ¬ inR r p) → costF (subF left r d) l = costF left l
  | [], _ => rfl
  | x :: l, h => by
    rw [costF_cons', costF_cons', cost_out fun p hp => h p (List.mem_cons_of_mem _ hp)]
    unfold subF
    rw [if_neg (h x (List.mem_cons_self ..))]
theorem cost_part {left : Int → Int} {r : Int × Int} {q : Int} (hq : inR r q) : ∀ {l : List Int}, (∀ p ∈ l, 0 ≤ left p) → q ∈ l → costF left (l.filter fun p => !decide (inR r p)) + left q ≤ costF left l
  | [], _, h => nomatch h
  | x :: l, h0, h => by
    have hx := h0 x (List.mem_cons_self ..)
    have tl : ∀ {l : List Int}, (∀ p ∈ l, 0 ≤ left p) → costF left (l.filter fun p => !decide (inR r p)) ≤ costF left l := by
      intro l
      induction l with
      | nil => exact fun _ => Int.le_refl _
      | cons y l ih =>
        intro h
        have hy := h y (List.mem_cons_self ..)
        have := ih fun p hp => h p (List.mem_cons_of_mem _ hp)
        rw [List.filter_cons]
        split
        · rw [costF_cons', costF_cons']; omega
        · rw [costF_cons']; omega
    rw [List.filter_cons]
    by_cases c : inR r x
    · rw [if_neg (by rw [decide_eq_true c]; decide), costF_cons']
      rcases List.mem_cons.mp h with z | z
      · rw [← z]
        have := tl fun p hp => h0 p (List.mem_cons_of_mem _ hp)
        omega
      · have := cost_part hq (fun p hp => h0 p (List.mem_cons_of_mem _ hp)) z
        omega
    · rw [if_pos (by rw [decide_eq_false c]; rfl), costF_cons', costF_cons']
      have z : q ∈ l := (List.mem_cons.mp h).elim (fun e => absurd (e ▸ hq) c) id
      have := cost_part hq (fun p hp => h0 p (List.mem_cons_of_mem _ hp)) z
      omega
theorem max_in {r : Int × Int} : ∀ {l : List Int}, (∃ p ∈ l, inR r p) → ∃ q ∈ l, inR r q ∧ ∀ p ∈ l, inR r p → p ≤ q
  | [], h => by obtain ⟨_, hp, _⟩ := h; cases hp
  | x :: l, h => by
    by_cases c : ∃ p ∈ l, inR r p
    · obtain ⟨q, h1, h2, h3⟩ := max_in c
      by_cases cx : inR r x ∧ q < x
      · refine ⟨x, List.mem_cons_self .., cx.1, fun p hp hpr => ?_⟩
        rcases List.mem_cons.mp hp with z | z
        · omega
        · have := h3 p z hpr; omega
      · refine ⟨q, List.mem_cons_of_mem _ h1, h2, fun p hp hpr => ?_⟩
        rcases List.mem_cons.mp hp with z | z
        · rw [z] at hpr ⊢
          by_cases w : q < x
          · exact absurd ⟨hpr, w⟩ cx
          · omega
        · exact h3 p z hpr
    · obtain ⟨p, hp, hpr⟩ := h
      rcases List.mem_cons.mp hp with z | z
      · refine ⟨x, List.mem_cons_self .., z ▸ hpr, fun p' hp' hpr' => ?_⟩
        rcases List.mem_cons.mp hp' with w | w
        · omega
        · exact absurd ⟨p', w, hpr'⟩ c
      · exact absurd ⟨p, z, hpr⟩ c
def duesF (l : List ((Int × Int) × Int)) : Int := (l.map (·.2)).sum
/-- runs by their ends: some places cost no more than the dues -/
theorem dual : ∀ {l : List ((Int × Int) × Int)} {left : Int → Int} {B : Int → Prop}, (∀ x ∈ l, ∀ p, inR x.1 p → B p) → (∀ p, B p → 0 ≤ left p) → (l.map (·.1.2)).Pairwise (· ≤ ·) → Greedy left l →
    ∃ S : List Int, (∀ x ∈ l, ∃ p ∈ S, inR x.1 p) ∧ (∀ p ∈ S, B p) ∧ costF left S ≤ duesF l
  | [], left, B, _, _, _, _ => ⟨[], (fun _ h => nomatch h), (fun _ h => nomatch h), Int.le_refl _⟩
  | (r, d) :: l, left, B, hB, h0, hs, hg => by
    obtain ⟨⟨p0, hp0, e0⟩, hmin, hg'⟩ := hg
    rw [List.map_cons, List.pairwise_cons] at hs
    have nn := sub_nn (B := B) hmin h0
    obtain ⟨S, h1, h2, h3⟩ := dual (B := B) (fun x hx => hB x (List.mem_cons_of_mem _ hx)) nn hs.2 hg'
    have ed : duesF ((r, d) :: l) = d + duesF l := rfl
    by_cases c : ∃ p ∈ S, inR r p
    · obtain ⟨q, q1, q2, q3⟩ := max_in c
      have hq := cost_part q2 (fun p hp => nn p (h2 p hp)) q1
      have ho : costF (subF left r d) (S.filter fun p => !decide (inR r p)) = costF left (S.filter fun p => !decide (inR r p)) := cost_out fun p hp z => by
        have := (List.mem_filter.mp hp).2
        rw [decide_eq_true z] at this
        cases this
      have eq : subF left r d q = left q - d := if_pos q2
      refine ⟨q :: S.filter fun p => !decide (inR r p), fun x hx => ?_, fun p hp => ?_, ?_⟩
      · rcases List.mem_cons.mp hx with z | z
        · rw [z]; exact ⟨q, List.mem_cons_self .., q2⟩
        · obtain ⟨p, hp, hpx⟩ := h1 x z
          by_cases cp : inR r p
          · have := q3 p hp cp
            have hxl : r.2 ≤ x.1.2 := hs.1 _ (List.mem_map_of_mem (f := fun x : (Int × Int) × Int => x.1.2) z)
            exact ⟨q, List.mem_cons_self .., by have := hpx.1; omega, by have := q2.2; omega⟩
          · exact ⟨p, List.mem_cons_of_mem _ (List.mem_filter.mpr ⟨hp, by rw [decide_eq_false cp]; rfl⟩), hpx⟩
      · rcases List.mem_cons.mp hp with z | z
        · rw [z]; exact h2 q q1
        · exact h2 p (List.mem_filter.mp z).1
      · rw [costF_cons', ed]
        omega
    · have ho : costF (subF left r d) S = costF left S := cost_out fun p hp z => c ⟨p, hp, z⟩
      refine ⟨p0 :: S, fun x hx => ?_, fun p hp => ?_, ?_⟩
      · rcases List.mem_cons.mp hx with z | z
        · rw [z]; exact ⟨p0, List.mem_cons_self .., hp0⟩
        · obtain ⟨p, hp, hpx⟩ := h1 x z
          exact ⟨p, List.mem_cons_of_mem _ hp, hpx⟩
      · rcases List.mem_cons.mp hp with z | z
        · rw [z]; exact hB _ (List.mem_cons_self ..) _ hp0
        · exact h2 p z
      · rw [costF_cons', ed]
        omega
/-- what a place has to pay -/
def paidF (l : List ((Int × Int) × Int)) (p : Int) : Int := (l.map fun x => if inR x.1 p then x.2 else 0).sum
theorem greedy_left : ∀ {l : List ((Int × Int) × Int)} {left : Int → Int} {B : Int → Prop}, (∀ x ∈ l, ∀ p, inR x.1 p → B p) → (∀ p, B p → 0 ≤ left p) → Greedy left l → (∀ x ∈ l, 0 ≤ x.2) ∧ ∀ p, B p → paidF l p ≤ left p
  | [], left, B, _, h0, _ => ⟨(fun _ h => nomatch h), h0⟩
  | (r, d) :: l, left, B, hB, h0, hg => by
    obtain ⟨⟨p0, hp0, e0⟩, hmin, hg'⟩ := hg
    obtain ⟨h1, h2⟩ := greedy_left (B := B) (fun x hx => hB x (List.mem_cons_of_mem _ hx)) (sub_nn hmin h0) hg'
    refine ⟨fun x hx => ?_, fun p hp => ?_⟩
    · rcases List.mem_cons.mp hx with z | z
      · rw [z]
        show 0 ≤ d
        rw [← e0]
        exact h0 p0 (hB _ (List.mem_cons_self ..) _ hp0)
      · exact h1 x z
    · have := h2 p hp
      have e : paidF ((r, d) :: l) p = (if inR r p then d else 0) + paidF l p := rfl
      rw [e]
      unfold subF at this
      split at this
      · rename_i c; rw [if_pos c]; omega
      · rename_i c; rw [if_neg c]; omega
theorem Greedy.snoc : ∀ {l : List ((Int × Int) × Int)} {left : Int → Int} {r : Int × Int} {d : Int}, Greedy left l → (∃ p, inR r p ∧ left p - paidF l p = d) → (∀ p, inR r p → d ≤ left p - paidF l p) → Greedy left (l ++ [(r, d)])
  | [], left, r, d, _, h1, h2 => ⟨by obtain ⟨p, a, b⟩ := h1; exact ⟨p, a, by have : paidF [] p = 0 := rfl; omega⟩, fun p hp => by have := h2 p hp; have : paidF [] p = 0 := rfl; omega, trivial⟩
  | (r0, d0) :: l, left, r, d, hg, h1, h2 => by
    obtain ⟨g1, g2, g3⟩ := hg
    have e : ∀ p, subF left r0 d0 p - paidF l p = left p - paidF ((r0, d0) :: l) p := fun p => by
      have e : paidF ((r0, d0) :: l) p = (if inR r0 p then d0 else 0) + paidF l p := rfl
      rw [e]
      unfold subF
      split <;> omega
    exact ⟨g1, g2, g3.snoc (by obtain ⟨p, a, b⟩ := h1; exact ⟨p, a, by rw [e]; exact b⟩) fun p hp => by rw [e]; exact h2 p hp⟩
theorem paid_snoc (l : List ((Int × Int) × Int)) (r : Int × Int) (d p : Int) : paidF (l ++ [(r, d)]) p = paidF l p + if inR r p then d else 0 := by
  unfold paidF
  rw [List.map_append, List.sum_append]
  simp

/-! ### rows that are lists or tuples -/
def IntsQ (H : Hp) (a : Addr) (ns : List Int) : Prop := SqH H a (ns.map V.int)
def LsQ (H : Hp) (a : Addr) (rs : List (Int × Int)) : Prop := ∃ us, SqH H a us ∧ Prs H us rs
theorem SqH.sq {K : PySem.W.Frag} {H : Hp} {a : Addr} {xs : List V} (h : SqH H a xs) : Sq K H a xs := h.elim (fun e => .inl (SqL.of e)) (fun e => .inr (.inl (.inl e)))
theorem SqH.lq {K : PySem.W.Frag} {H : Hp} {a : Addr} {xs : List V} (h : SqH H a xs) : SqL K H a xs ∨ SqT K H a xs := h.elim (fun e => .inl (SqL.of e)) (fun e => .inr (.inl (.inl e)))
theorem SqH.same {H H' : Hp} {a : Addr} {xs : List V} (h : SqH H a xs) (s : Same H H') : SqH H' a xs := h.elim (fun e => .inl (s _ _ e)) (fun e => .inr (s _ _ e))
theorem SqH.kp {H H' : Hp} {a d c : Addr} {xs : List V} (h : SqH H a xs) (h1 : a ≠ d) (h2 : a ≠ c) (k : Kp d c H H') : SqH H' a xs := h.elim (fun e => .inl (k _ _ h1 h2 e)) (fun e => .inr (k _ _ h1 h2 e))
theorem LsQ.same {H H' : Hp} {a : Addr} {rs : List (Int × Int)} (h : LsQ H a rs) (s : Same H H') : LsQ H' a rs := by
  obtain ⟨us, e, p⟩ := h
  exact ⟨us, e.same s, p.1, fun i r er => let ⟨x, h1, h2⟩ := p.2 i r er; ⟨x, h1, s _ _ h2⟩⟩
theorem SqH.ql {K : PySem.W.Frag} {H : Hp} {a : Addr} {xs : List V} (h : SqH H a xs) : SqT K H a xs ∨ SqL K H a xs := h.elim (fun e => .inr (SqL.of e)) (fun e => .inl (.inl (.inl e)))

/-! ### min of pairs -/
def lexLe (p q : Int × Int) : Prop := p.1 < q.1 ∨ (p.1 = q.1 ∧ p.2 ≤ q.2)
instance (p q : Int × Int) : Decidable (lexLe p q) := by unfold lexLe; infer_instance
theorem lexLe.refl (p : Int × Int) : lexLe p p := .inr ⟨rfl, Int.le_refl _⟩
theorem lexLe.trans {p q r : Int × Int} (h : lexLe p q) (h' : lexLe q r) : lexLe p r := by
  unfold lexLe at *
  omega
theorem lexLe.total {p q : Int × Int} (h : ¬ lexLe p q) : lexLe q p := by
  unfold lexLe at *
  omega
theorem lt_pairs (p q : Int × Int) : PySem.W.dataLt (pairD q) (pairD p) = !decide (lexLe p q) := by
  have h := congrFun (congrFun (PySem.W.dataLe_ii (fun x : Int × Int => x.1) (fun x : Int × Int => x.2)) p) q
  have h' : (!PySem.W.dataLt (pairD q) (pairD p)) = decide (p.1 < q.1 ∨ (p.1 = q.1 ∧ p.2 ≤ q.2)) := h
  have e : decide (lexLe p q) = decide (p.1 < q.1 ∨ (p.1 = q.1 ∧ p.2 ≤ q.2)) := by unfold lexLe; rfl
  rw [e, ← h', Bool.not_not]
theorem min_pairs : ∀ (ps : List (Int × Int)) (p : Int × Int), ∃ m, m ∈ p :: ps ∧ (∀ q ∈ p :: ps, lexLe m q) ∧ PySem.W.minD (pairD p) (ps.map pairD) = pairD m
  | [], p => ⟨p, List.mem_cons_self .., fun q hq => by rw [List.mem_singleton.mp hq]; exact lexLe.refl p, rfl⟩
  | q :: ps, p => by
    have e : PySem.W.minD (pairD p) ((q :: ps).map pairD) = PySem.W.minD (if PySem.W.dataLt (pairD q) (pairD p) then pairD q else pairD p) (ps.map pairD) := rfl
    rw [e, lt_pairs p q]
    by_cases c : lexLe p q
    · rw [decide_eq_true c]
      obtain ⟨m, h1, h2, h3⟩ := min_pairs ps p
      refine ⟨m, ?_, fun x hx => ?_, h3⟩
      · rcases List.mem_cons.mp h1 with z | z
        · rw [z]; exact List.mem_cons_self ..
        · exact List.mem_cons_of_mem _ (List.mem_cons_of_mem _ z)
      · rcases List.mem_cons.mp hx with z | z
        · rw [z]; exact h2 p (List.mem_cons_self ..)
        · rcases List.mem_cons.mp z with y | y
          · rw [y]; exact (h2 p (List.mem_cons_self ..)).trans c
          · exact h2 x (List.mem_cons_of_mem _ y)
    · rw [decide_eq_false c]
      obtain ⟨m, h1, h2, h3⟩ := min_pairs ps q
      refine ⟨m, List.mem_cons_of_mem _ h1, fun x hx => ?_, h3⟩
      rcases List.mem_cons.mp hx with z | z
      · rw [z]; exact (h2 q (List.mem_cons_self ..)).trans (lexLe.total c)
      · exact h2 x z
theorem Reads.int_inj {h : Heap} {v : Value} {i j : Int} {as : List Addr} (r : Reads h v (.int j) as) (e : ∃ t, v = .int i t) : i = j := by
  obtain ⟨t, rfl⟩ := e
  cases r
  rfl
theorem reads_prs {X : Cx} {pins : List (Addr × Obj)} {σ : L2.St} {H : Hp} {s : Shared} (I : Inv X pins σ H s) : ∀ {us : List V} {ps : List (Int × Int)} {its : List Value}, Prs H us ps → Vals us its → ReadsAll s.heap its (ps.map pairD) []
  | [], [], _, _, .nil => .nil
  | [], _ :: _, _, h, _ => nomatch h.1
  | _ :: _, [], _, h, _ => nomatch h.1
  | u :: us, p :: ps, _, h, .cons (b := b) r t => by
    obtain ⟨a, e1, e2⟩ := h.2 0 p rfl
    have eu : u = .ref a := Option.some.inj e1
    subst eu
    cases r
    obtain ⟨ta, tb, hT⟩ := pair_in I e2
    have rest := reads_prs I (ps := ps) ⟨Nat.succ.inj h.1, fun i q e => h.2 (i + 1) q e⟩ t
    obtain ⟨o, ho, hc, n, hd⟩ := hT
    exact .cons (as := []) (.tuple ho hc hd (.cons (.int _ _) (.cons (.int _ _) .nil))) rest
def rMinP : List V → Hp → VK → Prop := fun vs H Q => ∃ (a : Addr) (us : List V) (ps : List (Int × Int)), vs = [V.ref a] ∧ H a = some (.lst us) ∧ Prs H us ps ∧ ps ≠ [] ∧ ∀ p T, p ∈ ps → (∀ q ∈ ps, lexLe p q) → H T = some (.tup [.int p.1, .int p.2]) → Q (.ref T) H
theorem cr_minP {X : Cx} (hc : X.calm = true) (hu : X.A.units + 64 < cLine) : CallR X (.builtin "min") rMinP := fun pins s σ H vs us Q I r h => by
  obtain ⟨a, ws, ps, rfl, ha, hp, hne, q⟩ := h
  obtain ⟨its, rv, hl, hz⟩ := I.list (SqL.of ha)
  rw [Vals.ref1 r]
  cases ps with
  | nil => exact absurd rfl hne
  | cons p ps =>
    have hr := reads_prs I hp rv
    refine PySem.W.min_list_data (x := pairD p) (xs := ps.map pairD) (I.ok.hd hc) hl.isList (by simpa using hr) ?_ ?_ fun i v h' tk bs hv hR hk => ?_
    · have e : pairD p :: List.map pairD ps = (p :: ps).map pairD := rfl
      rw [e]
      refine ⟨fun x hx y hy => ?_, fun x hx => ?_⟩
      · obtain ⟨x', _, rfl⟩ := List.mem_map.mp hx
        obtain ⟨y', _, rfl⟩ := List.mem_map.mp hy
        simp [pairD, PySem.W.alike, PySem.W.alikeAll]
      · obtain ⟨x', _, rfl⟩ := List.mem_map.mp hx
        exact fun z => nomatch z
    · have := depth_prs (p :: ps)
      rw [List.map_cons] at this
      omega
    · obtain ⟨m, m1, m2, m3⟩ := min_pairs ps p
      rw [m3] at hR
      have hv' : its[i]? = some v := by simpa using hv
      have hi : i < ws.length := by rw [rv.length]; exact (List.getElem?_eq_some_iff.mp hv').1
      obtain ⟨g, T, eg, ew, eT⟩ := prs_at hp (List.getElem?_eq_getElem hi)
      obtain ⟨u, hu', ru⟩ := rv.get (List.getElem?_eq_getElem hi)
      rw [hv'] at hu'
      cases hu'
      rw [ew] at ru
      cases ru
      obtain ⟨ta, tb, o, ho, hcl, n, hd⟩ := pair_in I eT
      have gm : g = m := by
        cases hR with
        | tuple ho' hc' hd' rr =>
          rw [hk _ _ ho] at ho'
          cases ho'
          rw [hd] at hd'
          cases hd'
          cases rr with
          | cons r1 rr =>
            cases rr with
            | cons r2 rr =>
              exact Prod.ext (Reads.int_inj r1 ⟨_, rfl⟩) (Reads.int_inj r2 ⟨_, rfl⟩)
      rw [gm] at eT
      exact ⟨.ref T, H, I.kept hk, rfl, q m T m1 m2 eT⟩

/-! ### enumerate(list, start=k) -/
def IteF (K : PySem.W.Frag) (k0 : Int) (a : Addr) : It :=
  ⟨fun i H => ∃ (xs : List V) (x : V), SqL K H a xs ∧ xs[i]? = some x, fun i H v H' => ∃ T x, v = .ref T ∧ H T = none ∧ H' = upd H T (.tup [.int (k0 + (i : Nat)), x]) ∧ ∀ xs, SqL K H a xs → xs[i]? = some x, fun i H => ∃ xs : List V, SqL K H a xs ∧ xs.length = i⟩
theorem turn_enumF {P : Program} {w : World} {K : PySem.W.Frag} {elts : List Expr} {kk : Nat} {tpos : Pos} (k0 : Int) (a e it : Addr) (nea : e ≠ a) (nia : a ≠ it) :
    Turn P w K (.Tuple elts kk tpos) (IteF K k0 a) [e, it] e (fun i h => (∃ old, IsEnum h e it (k0 + ((i : Nat) : Int)) old) ∧ h.IsListIter it a i ∧ e ≠ it) where
  mem := by simp
  obj := fun i h st b hb => by
    obtain ⟨⟨old, he⟩, ⟨o, ho, hc, hd⟩, _⟩ := st
    have e' : b = e ∨ b = it := by simpa using hb
    rcases e' with z | z
    · rw [z]; exact ⟨_, he, fun v q => nomatch q⟩
    · rw [z]; exact ⟨o, ho, fun v q => by rw [hd] at q; cases q⟩
  keep := fun i h h' st k => let ⟨⟨old, he⟩, hi, hne⟩ := st; ⟨⟨old, k e (by simp) _ he⟩, hi.at fun o q => k it (by simp) o q, hne⟩
  item := by
    intro X hP hw hK hc i pins s σ H E I hf st hg
    subst hP hw hK
    obtain ⟨⟨old, he⟩, hit, hne⟩ := st
    obtain ⟨xs, x, hq, hx⟩ := hg
    obtain ⟨its, rv, p, hz⟩ := I.list hq
    obtain ⟨u, hu, ru⟩ := rv.get hx
    have hel : e < s.heap.objs.size := Heap.lt_size he
    have hil : it < s.heap.objs.size := by obtain ⟨_, q, _⟩ := hit; exact Heap.lt_size q
    have hlt : i < its.toArray.size := by simpa using (List.getElem?_eq_some_iff.mp hu).1
    refine wpAny_pyNext_enum_itemC (Draws.list (show X.A.in1.handled = none from I.ok.hd hc) it a nia its.toArray) he ⟨hit, p.isList⟩ hlt hne (by simp [hne, nea]) fun x' h' tk hP' ho hit' hT hsz hk => ?_
    have eu : x' = u := by
      have h1 : its[i]? = some x' := by simpa using hP'
      rw [hu] at h1
      exact (Option.some.inj h1).symm
    subst eu
    refine ⟨_, rfl, wpAny_letOwnedTupleGo_enum (s := { s with heap := h', toks := tk + 1 }) ho fun h'' he' sb => ?_⟩
    have hT2 : h''.get? s.heap.objs.size = some { cls := .type "tuple", data := .seq #[.int (k0 + (i : Int)) tk, x'] } := (sb.2 _ (Nat.ne_of_gt hel)).trans hT
    have new : ObjOk X.prog X.w (upd H s.heap.objs.size (.tup [.int (k0 + (i : Nat)), x])) h'' s.heap.objs.size (.tup [.int (k0 + (i : Nat)), x]) :=
      ⟨by show 2 ≤ sizeLine; decide, [.int (k0 + (i : Int)) tk, x'], .cons ⟨_, rfl⟩ (.cons ru .nil), ⟨_, hT2, rfl, _, rfl⟩⟩
    have I1 : Inv X pins σ (upd H s.heap.objs.size (.tup [.int (k0 + (i : Nat)), x])) { s with heap := h'', toks := tk + 1 } :=
      I.turnedNew (ch := [e, it]) (fun b ob hb q => (sb.2 b (fun z => hb (by simp [z]))).trans (hk b ob (fun z => hb (by simp [z])) (fun z => hb (by simp [z])) q)) hf (Nat.le_refl _) new
    refine ⟨.ref s.heap.objs.size, _, I1, rfl, ⟨_, x, rfl, I.hok.fresh (Nat.le_refl _), rfl, fun ys hy => by rw [I.list_inj hy hq]; exact hx⟩, ⟨⟨x', ?_⟩, hit'.1.at fun o q => (sb.2 it (Ne.symm hne)).trans q, hne⟩, fun b hb => ?_⟩
    · have e1 : k0 + ((i + 1 : Nat) : Int) = k0 + (i : Int) + 1 := by omega
      rw [e1]; exact he'
    · have hb' : b < s.heap.objs.size := by
        have e' : b = e ∨ b = it := by simpa using hb
        rcases e' with z | z
        · rw [z]; exact hel
        · rw [z]; exact hil
      rw [upd_ne (Nat.ne_of_lt hb')]
      exact (hf b hb).1
  done := by
    intro X hP hw hK hc i pins s σ H E I hf st hg
    subst hP hw hK
    obtain ⟨⟨old, he⟩, hit, hne⟩ := st
    obtain ⟨xs, hq, hx⟩ := hg
    obtain ⟨its, rv, p, hz⟩ := I.list hq
    obtain ⟨f0, f1, f2, f3, f4, f5⟩ := hf it (by simp)
    have hl := rv.length
    have hn : its.toArray.size = i := by simp; omega
    refine wpAny_pyNext_enum_endD (Draws.list (show X.A.in1.handled = none from I.ok.hd hc) it a nia its.toArray) he ⟨by rw [hn]; exact hit, p.isList⟩ fun h' eb => ⟨rfl, I.turned (t' := s.toks) (fun b o hb q => eb b o hb q) f0 f1 f3 f4 f5⟩
  self := fun A i s Q E st h => let ⟨⟨_, he⟩, _⟩ := st; wpAny_pyIter_enum he h
theorem callWith_typeK {M : Model} {A : Around} {E : Value → Shared → Prop} {s : Shared} {env : Env} {pos : Pos} {T : String} {e : Expr} {kws : List Keyword} {Q : Value → Shared → Prop}
    (h : wpAny M A (spliced (backTo pos (starEach [e] env))) (fun vs s₁ => wpAny M A (evalAll ((backToKw pos (keywordEach kws env)).map (·.2)))
      (fun kvs s₂ => wpAny M A (call (.type T) vs (((backToKw pos (keywordEach kws env)).filterMap (·.1)).zip kvs)) Q E s₂) E s₁) E s)
    (he : ∃ t, backTo pos (starEach [e] env) = [(false, t)])
    (hall : (backToKw pos (keywordEach kws env)).all (·.1.isSome) = true)
    (hkw : (backToKw pos (keywordEach kws env)).any (·.1.isNone) = false) :
    wpAny M A (callWith pos (.type T) [] (backTo pos (starEach [e] env)) (backToKw pos (keywordEach kws env))) Q E s := by
  obtain ⟨t, he⟩ := he
  rw [he] at h ⊢
  unfold callWith
  refine wpAny_bind (wpAny_holding (wpAny_mono (evalArgs_kwB (Q := fun a s₁ => wpAny M A (call (.type T) ([] ++ a.pos) a.kw) Q E s₁) hall h) (fun a s₁ h₁ => wpAny_bind (wpAny_standAt ?_)) fun _ _ x => x))
  simp only [hkw, List.any_cons, List.any_nil, Bool.or_false]
  refine wpAny_bind (wpAny_pure ?_)
  exact wpAny_bind (wpAny_mono h₁ (fun r s₂ hr => wpAny_bind (wpAny_holding (wpAny_point (wpAny_pure hr)))) fun _ _ x => x)
def iEnumF (K : PySem.W.Frag) (ta tk : TA) : TI := fun σ H R => ta σ H fun vs H1 => tk σ H1 fun zs H2 => ∃ a xs k0, vs = [.ref a] ∧ zs = [.int k0] ∧ SqL K H2 a xs ∧ -(2 ^ 63) ≤ k0 ∧ k0 < 2 ^ 63 ∧ R (IteF K k0 a) H2
theorem pi_enumF {X : Cx} {e : Expr} {kws : List Keyword} {ta tk : TA} {p pos tpos : Pos} {elts : List Expr} {kk : Nat} (hg : Gl X "enumerate") (hm : X.mg "enumerate" = none) (ha : PA X [e] ta) (hk : PK X kws tk)
    (he : ∃ t, backTo pos (starEach [e] X.env) = [(false, t)])
    (hall : (backToKw pos (keywordEach kws X.env)).all (·.1.isSome) = true) (hnone : (backToKw pos (keywordEach kws X.env)).any (·.1.isNone) = false) (hks : (backToKw pos (keywordEach kws X.env)).filterMap (·.1) = [Str.ofString "start"]) :
    PI X (.Tuple elts kk tpos) (.Call (.Name "enumerate" p) [e] kws pos) (iEnumF X.K ta tk) := by
  refine ⟨fun pins s σ H R I h => ?_⟩
  refine wpAny_Call_Name_kw (ld_blt I hg hm boot_enumerate (callWith_typeK (thn (ha.run pos pins s σ H _ I h) fun us s1 ⟨vs, H1, I1, r1, q1⟩ => thn (hk.run pos pins s1 σ H1 _ I1 q1) fun ws s2 ⟨zs, H2, I2, r2, q2⟩ => ?_) he hall hnone))
  obtain ⟨a, xs, k0, rfl, rfl, hq, k1, k2, q⟩ := q2
  rw [hks, Vals.ref1 r1]
  cases r2 with
  | cons r rr =>
    cases rr
    obtain ⟨tk0, rfl⟩ := r
    obtain ⟨its, rv, p', hz⟩ := I2.list hq
    have hal : a < s2.heap.objs.size := by obtain ⟨_, q, _⟩ := p'.isList; exact Heap.lt_size q
    refine enum_begins_start (begins_list a its.toArray) p'.isList k1 k2 fun h' hE hit hsz hkp => wpAny_pyIter_enum hE ?_
    have I3 : Inv X pins σ H2 { s2 with heap := h' } := I2.kept (t' := s2.toks) hkp
    refine ⟨s2.heap.objs.size + 1, [s2.heap.objs.size + 1, s2.heap.objs.size], _, _, H2, rfl, I3, turn_enumF k0 a (s2.heap.objs.size + 1) s2.heap.objs.size (Nat.ne_of_gt (Nat.lt_succ_of_lt hal)) (Nat.ne_of_lt hal), ⟨⟨.none, by rw [Int.natCast_zero, Int.add_zero]; exact hE⟩, ⟨_, hit, rfl, rfl⟩, Nat.succ_ne_self _⟩, fun b hb => ?_, q⟩
    have e' : b = s2.heap.objs.size + 1 ∨ b = s2.heap.objs.size := by simpa using hb
    have hle : s2.heap.objs.size ≤ b := by
      rcases e' with z | z
      · rw [z]; exact Nat.le_add_right _ _
      · rw [z]; exact Nat.le_refl _
    exact I2.fpOk hle (I2.hok.fresh hle)
theorem walk_enumF {K : PySem.W.Frag} {k0 : Int} {a : Addr} {xs : List V} : Walk (IteF K k0 a) xs.length (fun H => SqL K H a xs) (YPair (fun i => some (.int (k0 + (i : Nat)))) (fun i => xs[i]?)) := by
  refine ⟨fun i _ hi q => ⟨xs, xs[i], q, by simp [hi]⟩, fun _ q => ⟨xs, q, rfl⟩, fun i H v H' _ q y => ?_⟩
  obtain ⟨T, x, h1, h2, h3, h4⟩ := y
  exact ⟨T, .int (k0 + (i : Nat)), x, h1, h2, h3, rfl, h4 xs q⟩

/-! ### furthest_back -/
def IntsA (H : Hp) (a : Addr) (ns : List Int) : Prop := H a = some (.lst (ns.map V.int))
theorem IntsA.at {ns : List Int} {i : Nat} {v : Int} (h : ns[i]? = some v) : atI (ns.map V.int) (i : Int) = some (.int v) := atI_nat (by rw [List.getElem?_map, h]; rfl)
theorem Same.put {H Hx : Hp} {p : Addr} {o : HO} (s : Same H Hx) (np : H p = none) : Same H (upd Hx p o) := fun b o' e => by
  rw [upd_ne (ne_of_none e np)]
  exact s b o' e
def RunIn (many : Int) (rs : List (Int × Int)) : Prop := ∀ r ∈ rs, 0 ≤ r.1 ∧ r.1 ≤ r.2 ∧ r.2 < many
theorem none_of_upd {H : Hp} {p q : Addr} {o : HO} (h : upd H p o q = none) : H q = none := by
  by_cases c : q = p
  · subst c; rw [upd_same] at h; cases h
  · rwa [upd_ne c] at h
structure Bk1 (rs : List (Int × Int)) (s b : Int) : Prop where
  lo : 0 ≤ b
  all : ∀ r ∈ rs, r.2 + 2 = s → r.1 + 1 ≤ b
  one : b = 0 ∨ ∃ r ∈ rs, r.2 + 2 = s ∧ b = r.1 + 1
def spBacks (K : PySem.W.Frag) : Sp := fun vs H Q _ => ∃ (many : Int) (b : Addr) (rs : List (Int × Int)), vs = [.int many, .ref b] ∧ LsQ H b rs ∧ 0 ≤ many ∧ many ≤ 900 ∧ RunIn many rs ∧
  ∀ l bs H', H l = none → Same H H' → IntsA H' l bs → (bs.length : Int) = many + 2 → (∀ (s : Nat) v, bs[s]? = some v → BackAt rs s v) → Q (.ref l) H'
abbrev sBacks : Stmt := topS 1
theorem scBacks : FnScope ["many", "runs", "backs", "first", "last", "spot"] ["many", "runs"] (defScope sBacks) := ⟨rfl, rfl, rfl, by decide +kernel, rfl, by decide +kernel, by decide +kernel⟩
section
variable {K : PySem.W.Frag} {mg : Str → Option Value} {P : Program} {w : World} {base : Heap}
theorem ok_Backs {f : Addr} {fd : FuncData} (F : Fun K "furthest_back" "furthest_back" sBacks f fd) (m_max : mg "max" = none) (m_range : mg "range" = none) : FnOk P w K mg base CX0 1 f fd ["many", "runs"] (spBacks K) := by
  refine F.ok scBacks (fun vs H Q E h => ?_) (fun cdv A outer s H vs Q E hr h => ?_)
  · obtain ⟨many, b, rs, rfl, _⟩ := h
    rfl
  · obtain ⟨many, b, rs, rfl, hL, m0, m1, hr0, q⟩ := h
    refine ⟨_, pss_cons (ps_set (i := 2) scBacks.nd rfl (.inl rfl) (pe_op op_rep (pe_lst (pa_cons pe_int pa_nil)) (pe_op op_add (pv 0) pe_int)))
      (pss_cons (ps_for PassesOwn.never rfl (pi_seq (pv 1)) (pg_tup rfl (pgs_cons (pg_name (i := 3) scBacks.nd rfl (.inl rfl)) (pgs_cons (pg_name (i := 4) scBacks.nd rfl (.inl rfl)) pgs_nil)))
        (pss_one (ps_asg (pe_callB (call_max2 rfl) (by rfl) m_max (by decide +kernel) (pa_cons (pe_ix ix_list (pv 2) (pe_op op_add (pv 4) pe_int) (fun _ _ => rfl)) (pa_cons (pe_op op_add (pv 3) pe_int) pa_nil))) (pg_sub (pv 2) (pe_op op_add (pv 4) pe_int) set_list))))
      (pss_cons (ps_for PassesOwn.never rfl (pi_range1 rfl m_range (pa_cons (pe_op op_add (pv 0) pe_int) pa_nil)) (pg_name (i := 5) scBacks.nd rfl (.inl rfl))
        (pss_one (ps_asg (pe_callB (call_max2 rfl) (by rfl) m_max (by decide +kernel) (pa_cons (pe_ix ix_list (pv 2) (pe_op op_add (pv 5) pe_int) (fun _ _ => rfl)) (pa_cons (pe_ix ix_list (pv 2) (pv 5) (fun _ _ => rfl)) pa_nil))) (pg_sub (pv 2) (pe_op op_add (pv 5) pe_int) set_list))))
      (pss_one (ps_ret (pv 2))))), ?_⟩
    obtain ⟨us, eb, hpr⟩ := hL
    refine ⟨Nat.le_of_ble_eq_true rfl, fun p0 np0 => ⟨_, rfl, many, 2, rfl, rfl, p0, many + 2, _, rfl, rfl, upd_same, by omega, by omega, ?_, fun p np => ?_⟩⟩
    · show 1 * _ ≤ _
      have e := small1000 (n := (many + 2).toNat) (by omega)
      omega
    have np' : H p = none := none_of_upd np
    have s0 := same_upd (o := .lst [.int 0]) np0
    have s1 : Same H (upd (upd H p0 (.lst [.int 0])) p (.lst ((List.replicate (many + 2).toNat (0 : Int)).map V.int))) := Same.put s0 np'
    have e0 : (List.replicate (many + 2).toNat [V.int 0]).flatten = (List.replicate (many + 2).toNat (0 : Int)).map V.int := by
      rw [List.map_replicate]
      generalize (many + 2).toNat = n
      induction n with
      | zero => rfl
      | succ n ih => rw [List.replicate_succ, List.flatten_cons, ih, List.replicate_succ]; rfl
    rw [e0]
    refine ⟨_, rfl, b, rfl, for_seqS (eb.sq (K := K)) s1 (fun i σ Hx => ∃ (bs : List Int) (y3 y4 y5 : Option V), σ = [some (.int many), some (.ref b), some (.ref p), y3, y4, y5] ∧ Same H Hx ∧ IntsA Hx p bs ∧ (bs.length : Int) = many + 2 ∧ ∀ (s : Nat) v, bs[s]? = some v → Bk1 (rs.take i) s v)
      ⟨_, _, _, _, rfl, s1, upd_same, by rw [List.length_replicate]; omega, fun s v e => ?_⟩ (fun i σ Hx hP => ?_) (fun i x σ Hx hx hP => ?_) (fun σ Hx hP => ?_)⟩
    · rw [List.getElem?_replicate] at e
      split at e
      · cases e
        exact ⟨Int.le_refl _, (fun r h => by rw [List.take_zero] at h; cases h), .inl rfl⟩
      · cases e
    · obtain ⟨bs, y3, y4, y5, rfl, s2, _⟩ := hP
      exact s2
    · obtain ⟨bs, y3, y4, y5, rfl, s2, hI, hl, hB⟩ := hP
      obtain ⟨r, T, er, rfl, eT⟩ := prs_at hpr hx
      obtain ⟨h1, h2, h3⟩ := hr0 r (List.mem_of_getElem? er)
      obtain ⟨j, hj⟩ := Int.eq_ofNat_of_zero_le (show 0 ≤ r.2 + 2 by omega)
      have lj : j < bs.length := by omega
      obtain ⟨v, ev⟩ : ∃ v, bs[j]? = some v := ⟨_, List.getElem?_eq_getElem lj⟩
      have tk : rs.take (i + 1) = rs.take i ++ [r] := by rw [List.take_add_one, er]; rfl
      refine ⟨T, _, rfl, .inl (.inl (s2 _ _ eT)), rfl, _, _, rfl, _, _, rfl, rfl, ?_⟩
      refine ⟨_, rfl, _, rfl, r.2, 2, rfl, rfl, p, _, r.2 + 2, .int v, rfl, rfl, SqL.of hI, by rw [hj]; exact IntsA.at ev, _, rfl, r.1, 1, rfl, rfl, _, _, rfl, ?_⟩
      refine ⟨_, rfl, _, rfl, r.2, 2, rfl, rfl, p, _, _, j, rfl, rfl, hI, by rw [hj, List.length_map]; exact ixN_of lj, ?_⟩
      refine ⟨bs.set j (if r.1 + 1 > v then r.1 + 1 else v), _, _, _, rfl, Same.put s2 np', ?_, by rw [List.length_set]; exact hl, fun s w e => ?_⟩
      · show upd _ _ _ _ = _
        rw [upd_same, List.map_set]
      · rw [tk]
        by_cases c : s = j
        · subst c
          rw [List.getElem?_set_self lj] at e
          cases e
          have g := hB s v ev
          refine ⟨?_, fun x hx e => ?_, ?_⟩
          · have := g.lo
            split <;> omega
          · rcases List.mem_append.mp hx with z | z
            · have := g.all x z e
              split <;> omega
            · rw [List.mem_singleton.mp z]
              split <;> omega
          · split
            · exact .inr ⟨r, List.mem_append_right _ (List.mem_singleton.mpr rfl), hj, rfl⟩
            · rcases g.one with z | ⟨x, x1, x2, x3⟩
              · exact .inl z
              · exact .inr ⟨x, List.mem_append_left _ x1, x2, x3⟩
        · rw [List.getElem?_set_ne (Ne.symm c)] at e
          have g := hB s w e
          refine ⟨g.lo, fun x hx e => ?_, ?_⟩
          · rcases List.mem_append.mp hx with z | z
            · exact g.all x z e
            · rw [List.mem_singleton.mp z] at e
              omega
          · rcases g.one with z | ⟨x, x1, x2, x3⟩
            · exact .inl z
            · exact .inr ⟨x, List.mem_append_left _ x1, x2, x3⟩
    · obtain ⟨bs, y3, y4, y5, rfl, s2, hI, hl, hB⟩ := hP
      rw [hpr.1, List.take_length] at hB
      refine ⟨_, rfl, many, 1, rfl, rfl, many + 1, rfl, by omega, by omega, for_range (n := (many + 1).toNat) (fun i σ Hx => ∃ (bs : List Int) (y3 y4 y5 : Option V), σ = [some (.int many), some (.ref b), some (.ref p), y3, y4, y5] ∧ Same H Hx ∧ IntsA Hx p bs ∧ (bs.length : Int) = many + 2 ∧ (∀ (s : Nat) v, s ≤ i → bs[s]? = some v → BackAt rs s v) ∧ ∀ (s : Nat) v, i < s → bs[s]? = some v → Bk1 rs s v)
        ⟨bs, _, _, _, rfl, s2, hI, hl, fun s v hs e => ?_, fun s v _ e => hB s v e⟩ (fun i σ Hx hi hP => ?_) (fun σ Hx hP => ?_)⟩
      · have z : s = 0 := Nat.le_zero.mp hs
        subst z
        have g := hB 0 v e
        refine ⟨g.lo, fun r hr e => ?_, ?_⟩
        · have := hr0 r hr; omega
        · rcases g.one with z | ⟨x, x1, x2, x3⟩
          · exact .inl z
          · have := hr0 x x1; omega
      · obtain ⟨bs, y3, y4, y5, rfl, s2, hI, hl, hA, hB⟩ := hP
        have l0 : i < bs.length := by omega
        have l1 : i + 1 < bs.length := by omega
        obtain ⟨v, ev⟩ : ∃ v, bs[i]? = some v := ⟨_, List.getElem?_eq_getElem l0⟩
        obtain ⟨v1, ev1⟩ : ∃ v, bs[i + 1]? = some v := ⟨_, List.getElem?_eq_getElem l1⟩
        have ei : (0 : Int) + (i : Int) = (i : Nat) := by omega
        have ei1 : (0 : Int) + (i : Int) + 1 = ((i + 1 : Nat) : Int) := by omega
        refine ⟨_, rfl, _, rfl, _, 1, rfl, rfl, p, _, _, .int v1, rfl, rfl, SqL.of hI, by rw [ei1]; exact IntsA.at ev1, _, rfl, _, rfl, p, _, _, .int v, rfl, rfl, SqL.of hI, by rw [ei]; exact IntsA.at ev, _, _, rfl, ?_⟩
        refine ⟨_, rfl, _, rfl, _, 1, rfl, rfl, p, _, _, i + 1, rfl, rfl, hI, by rw [ei1, List.length_map]; exact ixN_of l1, ?_⟩
        have g0 := hA i v (Nat.le_refl _) ev
        have g1 := hB (i + 1) v1 (Nat.lt_succ_self _) ev1
        refine ⟨bs.set (i + 1) (if v > v1 then v else v1), _, _, _, rfl, Same.put s2 np', ?_, by rw [List.length_set]; exact hl, fun s w hs e => ?_, fun s w hs e => ?_⟩
        · show upd _ _ _ _ = _
          rw [upd_same, List.map_set]
        · by_cases c : s = i + 1
          · subst c
            rw [List.getElem?_set_self l1] at e
            cases e
            refine ⟨?_, fun x hx e => ?_, ?_⟩
            · have := g0.lo
              have := g1.lo
              split <;> omega
            · by_cases c : x.2 + 2 ≤ (i : Int)
              · have := g0.all x hx c
                split <;> omega
              · have := g1.all x hx (by omega)
                split <;> omega
            · split
              · rcases g0.one with z | ⟨x, x1, x2, x3⟩
                · exact .inl z
                · exact .inr ⟨x, x1, by omega, x3⟩
              · rcases g1.one with z | ⟨x, x1, x2, x3⟩
                · exact .inl z
                · exact .inr ⟨x, x1, by omega, x3⟩
          · rw [List.getElem?_set_ne (Ne.symm c)] at e
            exact hA s w (by omega) e
        · rw [List.getElem?_set_ne (by omega)] at e
          exact hB s w (by omega) e
      · obtain ⟨bs, y3, y4, y5, rfl, s2, hI, hl, hA, hB⟩ := hP
        exact ⟨_, rfl, q p bs Hx np' s2 hI hl fun s v e => hA s v (by have := (List.getElem?_eq_some_iff.mp e).1; omega) e⟩
end

/-! ### the least costs, spot by spot -/
def cF (cs : List Int) (s : Int) : Int := cs.getD s.toNat 0
theorem cF_at {cs : List Int} {i : Nat} {v : Int} (h : cs[i]? = some v) : cF cs (i : Int) = v := by
  unfold cF
  rw [Int.toNat_natCast, List.getD_eq_getElem?_getD, h]
  rfl
theorem cF_old {cs : List Int} {v s : Int} (h1 : s < cs.length) (h0 : 0 ≤ s) : cF (cs ++ [v]) s = cF cs s := by
  unfold cF
  rw [List.getD_eq_getElem?_getD, List.getD_eq_getElem?_getD, List.getElem?_append_left (by omega)]
theorem cF_new {cs : List Int} {v s : Int} (h : s = cs.length) : cF (cs ++ [v]) s = v := by
  subst h
  exact cF_at (by simp)
theorem Costs.one {rs : List (Int × Int)} {pr : Int → Int} : Costs rs pr ((0 : Nat) : Int) (cF [0]) (cF [0]) :=
  ⟨rfl, fun s h1 h2 => by omega, fun s h1 h2 => by omega⟩
theorem Costs.step {rs : List (Int × Int)} {pr : Int → Int} {cs ah : List Int} {i : Nat} (C : Costs rs pr (i : Int) (cF cs) (cF ah)) (hl : cs.length = i + 1) (hl' : ah.length = i + 1) {b o : Int} (hb : BackAt rs ((i : Int) + 1) b) (h1 : b ≤ o) (h2 : o < (i : Int) + 1) (hm : ∀ o', b ≤ o' → o' < (i : Int) + 1 → cF cs o ≤ cF cs o') :
    Costs rs pr ((i + 1 : Nat) : Int) (cF (cs ++ [cF cs o + pr (i : Int)])) (cF (ah ++ [o])) := by
  have b0 := hb.lo
  have old : ∀ s : Int, 0 ≤ s → s ≤ (i : Int) → cF (cs ++ [cF cs o + pr (i : Int)]) s = cF cs s := fun s z1 z2 => cF_old (by omega) z1
  have old' : ∀ s : Int, 0 ≤ s → s ≤ (i : Int) → cF (ah ++ [o]) s = cF ah s := fun s z1 z2 => cF_old (by omega) z1
  have nw : cF (cs ++ [cF cs o + pr (i : Int)]) ((i : Int) + 1) = cF cs o + pr (i : Int) := cF_new (by omega)
  have nw' : cF (ah ++ [o]) ((i : Int) + 1) = o := cF_new (by omega)
  refine ⟨by rw [old 0 (by omega) (by omega)]; exact C.zero, fun s z1 z2 => ?_, fun s z1 z2 b' o' hb' e1 e2 => ?_⟩
  · by_cases c : s ≤ (i : Int)
    · obtain ⟨f1, f2, f3, f4⟩ := C.from_ s z1 c
      rw [old' s (by omega) c, old s (by omega) c, old _ f1 (by omega)]
      exact ⟨f1, f2, f3, f4⟩
    · have e : s = (i : Int) + 1 := by omega
      subst e
      rw [nw', nw, old o (by omega) (by omega), show (i : Int) + 1 - 1 = (i : Int) by omega]
      exact ⟨by omega, h2, ⟨b, hb, h1⟩, rfl⟩
  · have b'0 := hb'.lo
    by_cases c : s ≤ (i : Int)
    · have := C.least s z1 c b' o' hb' e1 e2
      rw [old s (by omega) c, old o' (by omega) (by omega)]
      exact this
    · have e : s = (i : Int) + 1 := by omega
      subst e
      have eb := hb.eq hb'
      subst eb
      rw [nw, old o' (by omega) (by omega), show (i : Int) + 1 - 1 = (i : Int) by omega]
      have := hm o' e1 (by omega)
      omega
/-- what is due of the way behind a spot -/
def Rest (rs : List (Int × Int)) (pr c : Int → Int) (s : Int) (l : List Int) : Prop := if s = 0 then l = [] else ∃ l', l = (s - 1) :: l' ∧ Way rs s l' ∧ costF pr l' + pr (s - 1) = c s
theorem costF_cons (pr : Int → Int) (x : Int) (l : List Int) : costF pr (x :: l) = pr x + costF pr l := rfl
theorem costF_rev (pr : Int → Int) (l : List Int) : costF pr l.reverse = costF pr l := by
  induction l with
  | nil => rfl
  | cons x l ih =>
    unfold costF at *
    rw [List.reverse_cons, List.map_append, List.sum_append, ih, List.map_cons, List.sum_cons]
    simp
    omega
/-! ### a comprehension that makes pairs -/
theorem lc_pairs {J : It} {n : Nat} {G : Hp → Prop} {Y : Nat → Hp → V → Hp → Prop} (w : Walk J n G Y) {g : TG} {tt : TT} {te : TE} {vs : List Nat} {σ : L2.St} {H1 : Hp} {D : Addr} {Qd : Hp → Prop} (ps : List (Int × Int)) (nD : H1 D = none) (hn : ps.length = n) (hz : n ≤ 1000) (hG : ∀ H, Same H1 H → G H)
    (turn : ∀ i x p H H' (Kt : V → Hp → Prop) (Kn : Hp → Prop), ps[i]? = some p → Same H1 H → Y i H x H' → (∀ T H4, Same H H4 → H4 T = some (.tup [.int p.1, .int p.2]) → Kt (.ref T) H4) → g x (wipe σ vs) H' fun σ2 H2 => wipe σ2 vs = wipe σ vs ∧ tt σ2 H2 fun b H3 => if b = true then te σ2 H3 Kt else Kn H3)
    (fin : ∀ H, Same H1 H → LsA H D ps → Qd H) : LcW J g tt te vs σ D Qd H1 := by
  refine lc_it w (fun j H => Same H1 H ∧ ∃ ws, H D = some (.lst ws) ∧ Prs H ws (ps.take j)) ⟨same_upd nD, [], upd_same, ⟨rfl, fun i p e => by rw [List.take_zero] at e; cases e⟩⟩ (fun i H _ p => hG H p.1) (fun i x H H' hi hP hy => ?_) (fun H hP => ?_)
  · obtain ⟨sm, ws, eD, hws⟩ := hP
    have hd : ps[i]? = some ps[i] := List.getElem?_eq_getElem (by omega)
    refine turn i x _ H H' _ _ hd sm hy fun T H4 s4 hT => ?_
    have eD4 := s4 _ _ eD
    have hl' : ws.length < 1000 := by
      rw [hws.1, List.length_take]
      omega
    refine ⟨ws, eD4, Nat.lt_of_lt_of_le hl' (by decide), fun b o e => ?_, ws ++ [.ref T], upd_same, ?_⟩
    · rw [upd_ne (ne_of_none e nD)]
      exact s4 _ _ (sm b o e)
    · rw [List.take_add_one, hd]
      exact ((hws.same s4).snoc hT).upd_lst eD4
  · obtain ⟨sm, ws, eD, hws⟩ := hP
    rw [List.take_of_length_le (by omega)] at hws
    exact fin H sm ⟨ws, eD, hws⟩

/-! ### least_places -/
theorem u64 {k : Nat} {A : Around} (r : Room k A) : A.units + 64 < cLine := by have := r.un; omega
/-- the price of a place; nought behind all -/
def prF (ps : List Int) : Int → Int := cF (ps ++ [0])
/-- of alike costs the furthest back -/
def FirstB (rs : List (Int × Int)) (k : Int) (c back : Int → Int) : Prop := ∀ s, 1 ≤ s → s ≤ k → ∀ b o, BackAt rs s b → b ≤ o → o < back s → c (back s) < c o
/-- from spot to spot -/
def Foll (back : Int → Int) : Int → List Int → Prop
  | s, [] => back s = 0
  | s, x :: l => back s = x + 1 ∧ Foll back (x + 1) l
def FollR (back : Int → Int) (s : Int) (l : List Int) : Prop := if s = 0 then l = [] else ∃ l', l = (s - 1) :: l' ∧ Foll back s l'
/-- the places that are told -/
def PathOf (rs : List (Int × Int)) (pr : Int → Int) (k : Int) (pre : List Int) : Prop := ∃ c back, Costs rs pr k c back ∧ FirstB rs k c back ∧ Foll back k pre
theorem Costs.uniq {rs : List (Int × Int)} {pr : Int → Int} {k : Int} {c back c' back' : Int → Int} (C : Costs rs pr k c back) (C' : Costs rs pr k c' back') (F : FirstB rs k c back) (F' : FirstB rs k c' back') : ∀ n : Nat, (∀ m : Nat, m < n → (m : Int) ≤ k → c m = c' m ∧ (1 ≤ m → back m = back' m))
  | 0, m, h, _ => absurd h (Nat.not_lt_zero _)
  | n + 1, m, h, hk => by
    have ih := Costs.uniq C C' F F' n
    by_cases e0 : m = 0
    · subst e0
      exact ⟨C.zero.trans C'.zero.symm, fun z => absurd z (by decide)⟩
    have h1 : (1 : Int) ≤ (m : Int) := by omega
    obtain ⟨f1, f2, ⟨b, hb, hb1⟩, f4⟩ := C.from_ m h1 hk
    obtain ⟨g1, g2, ⟨b', hb', hb1'⟩, g4⟩ := C'.from_ m h1 hk
    have eb := hb.eq hb'
    subst eb
    obtain ⟨x, ex⟩ := Int.eq_ofNat_of_zero_le f1
    obtain ⟨y, ey⟩ := Int.eq_ofNat_of_zero_le g1
    have ax := (ih x (by omega) (by omega)).1
    have ay := (ih y (by omega) (by omega)).1
    have l1 := C.least m h1 hk b y hb (by omega) (by omega)
    have l2 := C'.least m h1 hk b x hb (by omega) (by omega)
    rw [f4, ex] at l1
    rw [g4, ey] at l2
    have exy : x = y := by
      by_cases c1 : x < y
      · have := F' m h1 hk b x hb (by omega) (by omega)
        rw [ey] at this
        omega
      · by_cases c2 : y < x
        · have := F m h1 hk b y hb (by omega) (by omega)
          rw [ex] at this
          omega
        · omega
    subst exy
    exact ⟨by rw [f4, g4, ex, ey, ax], fun _ => by rw [ex, ey]⟩
theorem Foll.uniq {back back' : Int → Int} {k : Int} (h : ∀ s, 1 ≤ s → s ≤ k → back s = back' s) (lt : ∀ s, 1 ≤ s → s ≤ k → 0 ≤ back s ∧ back s < s) : ∀ {l l' : List Int} {s : Int}, 1 ≤ s → s ≤ k → Foll back s l → Foll back' s l' → (∀ x ∈ l, 0 ≤ x) → (∀ x ∈ l', 0 ≤ x) → l = l'
  | [], [], _, _, _, _, _, _, _ => rfl
  | [], y :: l', s, h1, h2, f, f', _, n' => by
    have e := h s h1 h2
    have a : back s = 0 := f
    have b : back' s = y + 1 := f'.1
    have := n' y (List.mem_cons_self ..)
    omega
  | x :: l, [], s, h1, h2, f, f', n, _ => by
    have e := h s h1 h2
    have a : back s = x + 1 := f.1
    have b : back' s = 0 := f'
    have := n x (List.mem_cons_self ..)
    omega
  | x :: l, y :: l', s, h1, h2, f, f', n, n' => by
    have e := h s h1 h2
    have a : back s = x + 1 := f.1
    have b : back' s = y + 1 := f'.1
    have exy : x = y := by omega
    subst exy
    have hx := n x (List.mem_cons_self ..)
    have := lt s h1 h2
    rw [Foll.uniq h lt (s := x + 1) (by omega) (by omega) f.2 f'.2 (fun z hz => n z (List.mem_cons_of_mem _ hz)) (fun z hz => n' z (List.mem_cons_of_mem _ hz))]
theorem PathOf.uniq {rs : List (Int × Int)} {pr : Int → Int} {k : Int} (hk : 1 ≤ k) {l l' : List Int} (h : PathOf rs pr k l) (h' : PathOf rs pr k l') (n : ∀ x ∈ l, 0 ≤ x) (n' : ∀ x ∈ l', 0 ≤ x) : l = l' := by
  obtain ⟨c, back, C, F, f⟩ := h
  obtain ⟨c', back', C', F', f'⟩ := h'
  refine Foll.uniq (k := k) (fun s h1 h2 => ?_) (fun s h1 h2 => let ⟨a, b, _⟩ := C.from_ s h1 h2; ⟨a, b⟩) hk (Int.le_refl _) f f' n n'
  obtain ⟨m, rfl⟩ := Int.eq_ofNat_of_zero_le (show 0 ≤ s by omega)
  exact (C.uniq C' F F' (m + 1) m (Nat.lt_succ_self _) h2).2 (by omega)
def spPlaces (K : PySem.W.Frag) : Sp := fun vs H Q _ => ∃ (a b : Addr) (ps : List Int) (rs : List (Int × Int)), vs = [.ref a, .ref b] ∧ IntsQ H a ps ∧ LsQ H b rs ∧ ps.length ≤ 900 ∧ RunIn ps.length rs ∧
  ∀ l H' pre, H l = none → Same H H' → IntsA H' l pre.reverse → Way rs ((ps.length : Int) + 1) pre → (∀ l', Way rs ((ps.length : Int) + 1) l' → costF (prF ps) pre ≤ costF (prF ps) l') → PathOf rs (prF ps) ((ps.length : Int) + 1) pre → Q (.ref l) H'
structure PlW (H : Hp) (a b pb pc pa pl : Addr) (ps : List Int) (rs : List (Int × Int)) (bs cs ah : List Int) (i : Nat) (Hx : Hp) : Prop where
  sm : Same H Hx
  eb : IntsA Hx pb bs
  ec : IntsA Hx pc cs
  ea : IntsA Hx pa ah
  el : IntsA Hx pl (ps ++ [0])
  lc : cs.length = i + 1
  la : ah.length = i + 1
  cst : Costs rs (prF ps) (i : Int) (cF cs) (cF ah)
  fst : FirstB rs (i : Int) (cF cs) (cF ah)
abbrev sPlaces : Stmt := topS 2
theorem scPlaces : FnScope ["prices", "runs", "backs", "costs", "ahead", "spot", "price", "cost", "back", "places", "one"] ["prices", "runs"] (defScope sPlaces) := ⟨rfl, rfl, rfl, by decide +kernel, rfl, by decide +kernel, by decide +kernel⟩
section
variable {K : PySem.W.Frag} {mg : Str → Option Value} {P : Program} {w : World} {base : Heap}
theorem ok_Places {f : Addr} {fd : FuncData} (F : Fun K "least_places" "least_places" sPlaces f fd) (C_furthest_back : Cal P w K mg base 1 "furthest_back" ["many", "runs"] (spBacks K)) (m_len : mg "len" = none) (m_enumerate : mg "enumerate" = none) (m_range : mg "range" = none) (m_min : mg "min" = none) : FnOk P w K mg base CX0 2 f fd ["prices", "runs"] (spPlaces K) := by
  refine F.ok scPlaces (fun vs H Q E h => ?_) (fun cdv A outer s H vs Q E hr h => ?_)
  · obtain ⟨a, b, ps, rs, rfl, _⟩ := h
    rfl
  · obtain ⟨a, b, ps, rs, rfl, hA, hL, hz, hr0, q⟩ := h
    refine ⟨_, pss_cons (ps_set (i := 2) scPlaces.nd rfl (.inl rfl) (pe_own C_furthest_back hr (by rfl) (pa_cons (pe_callB call_len_seq (by rfl) m_len PySem.boot_len (pa_cons (pv 0) pa_nil)) (pa_cons (pv 1) pa_nil))))
      (pss_cons (ps_set (i := 3) scPlaces.nd rfl (.inr rfl) (pe_lst (pa_cons pe_int pa_nil)))
      (pss_cons (ps_set (i := 4) scPlaces.nd rfl (.inl rfl) (pe_lst (pa_cons pe_int pa_nil)))
      (pss_cons (ps_for PassesOwn.never rfl (pi_enumF (by rfl) m_enumerate (pa_cons (pe_lst (StX.pa_star (pv 0) (pa_cons pe_int pa_nil))) pa_nil) (pk_cons pe_int pk_nil) ⟨_, rfl⟩ rfl rfl rfl) (pg_tup rfl (pgs_cons (pg_name (i := 5) scPlaces.nd rfl (.inl rfl)) (pgs_cons (pg_name (i := 6) scPlaces.nd rfl (.inl rfl)) pgs_nil)))
        (pss_cons (ps_asg (pe_callB (cr_minP rfl (u64 hr)) (by rfl) m_min (by decide +kernel) (pa_cons (pe_lc (own := [("one", 10)]) (g := (gName 10)) (tt := tYes) (te := (tTup (tCons (tOp (rIxL K) (tVar 3) (tVar 10)) (tCons (tVar 10) tNil)))) rfl scPlaces.nd (pi_range2 rfl m_range (pa_cons (pe_ix ix_list (pv 2) (pv 5) (fun _ _ => rfl)) (pa_cons (pv 5) pa_nil))) (blkOk_by (own := [("one", 10)]) (N := ["prices", "runs", "backs", "costs", "ahead", "spot", "price", "cost", "back", "places", "one"]) (sc := defScope sPlaces) (by decide +kernel)) (fun _ _ _ _ _ => (pg_name (i := 10) scPlaces.nd rfl (.inl rfl))) (fun _ _ _ _ _ => pts_nil) (fun _ _ _ _ _ => (pe_tup (pa_cons (pe_ix ix_list (pv 3) (pv 10) (fun _ _ => rfl)) (pa_cons (pv 10) pa_nil))))) pa_nil)) (pg_tup rfl (pgs_cons (pg_name (i := 7) scPlaces.nd rfl (.inl rfl)) (pgs_cons (pg_name (i := 8) scPlaces.nd rfl (.inl rfl)) pgs_nil))))
        (pss_cons (ps_expr (pe_bm PySem.F.plainAttrs_list PySem.F.slot_list_append PySem.F.type_list_append mt_append (pv 3) (pa_cons (pe_op op_add (pv 7) (pv 6)) pa_nil)))
        (pss_one (ps_expr (pe_bm PySem.F.plainAttrs_list PySem.F.slot_list_append PySem.F.type_list_append mt_append (pv 4) (pa_cons (pv 8) pa_nil)))))))
      (pss_cons (ps_set (i := 9) scPlaces.nd rfl (.inl rfl) (pe_lst pa_nil))
      (pss_cons (ps_set (i := 5) scPlaces.nd rfl (.inl rfl) (pe_ix ix_list (pv 4) (pe_un un_neg pe_int) (fun _ _ => rfl)))
      (pss_cons (ps_while PassesOwn.never (pt_cmpR op_gt (pv 5) pe_int (nomark _))
        (pss_cons (ps_expr (pe_bm PySem.F.plainAttrs_list PySem.F.slot_list_append PySem.F.type_list_append mt_append (pv 9) (pa_cons (pe_op op_sub (pv 5) pe_int) pa_nil)))
        (pss_one (ps_set (i := 5) scPlaces.nd rfl (.inl rfl) (pe_ix ix_list (pv 4) (pv 5) (fun _ _ => rfl))))))
      (pss_one (ps_ret (pe_revL (pv 9)))))))))), ?_⟩
    refine ⟨_, rfl, a, _, rfl, hA.lq, _, rfl, ((ps.map V.int).length : Int), b, rs, rfl, hL, by omega, by rw [List.length_map]; omega, by rw [List.length_map]; exact hr0, fun pb bs H1 npb s1 eb lb hB => ?_⟩
    rw [List.length_map] at lb
    refine ⟨Nat.le_of_ble_eq_true rfl, fun pc npc => ⟨Nat.le_of_ble_eq_true rfl, fun pa npa => ?_⟩⟩
    have npc0 : H pc = none := s1.free npc
    have npa1 : H1 pa = none := none_of_upd npa
    have npa0 : H pa = none := s1.free npa1
    have pbc : pb ≠ pc := ne_of_none eb npc
    have pba : pb ≠ pa := ne_of_none eb npa1
    have pca : pc ≠ pa := fun z => by rw [← z, upd_same] at npa; cases npa
    have sA : Same H1 (upd (upd H1 pc (.lst [.int 0])) pa (.lst [.int 0])) := Same.put (same_upd npc) npa1
    have ecA : IntsA (upd (upd H1 pc (.lst [.int 0])) pa (.lst [.int 0])) pc [0] := by
      show upd _ _ _ _ = _
      rw [upd_ne pca]
      exact upd_same
    have eaA : IntsA (upd (upd H1 pc (.lst [.int 0])) pa (.lst [.int 0])) pa [0] := upd_same
    generalize hHA : upd (upd H1 pc (.lst [.int 0])) pa (.lst [.int 0]) = HA at sA ecA eaA
    have hmap : ps.map V.int ++ [V.int 0] = (ps ++ [0]).map V.int := by rw [List.map_append]; rfl
    refine ⟨_, rfl, a, _, rfl, ((hA.same s1).same sA).ql, ?_⟩
    refine ⟨?_, fun pl npl => ?_⟩
    · have := small1000 (n := (ps.map V.int ++ [V.int 0]).length) (by simp; omega)
      exact Nat.le_of_lt this
    rw [hmap]
    have sL := same_upd (o := .lst ((ps ++ [0]).map V.int)) npl
    have plb : pb ≠ pl := ne_of_none (sA _ _ eb) npl
    have plc : pc ≠ pl := ne_of_none ecA npl
    have pla : pa ≠ pl := ne_of_none eaA npl
    have npl0 : H pl = none := s1.free (sA.free npl)
    have len : (((ps ++ [0]).map V.int).length) = ps.length + 1 := by simp
    refine ⟨pl, _, 1, rfl, rfl, SqL.of upd_same, by decide, by decide, for_it (walk_enumF (xs := (ps ++ [0]).map V.int)) (fun i σ Hx => ∃ (cs ah : List Int) (y5 y6 y7 y8 y10 : Option V), σ = [some (.ref a), some (.ref b), some (.ref pb), some (.ref pc), some (.ref pa), y5, y6, y7, y8, none, y10] ∧ PlW H a b pb pc pa pl ps rs bs cs ah i Hx)
      ⟨[0], [0], _, _, _, _, _, rfl, s1.trans (sA.trans sL), sL _ _ (sA _ _ eb), sL _ _ ecA, sL _ _ eaA, upd_same, rfl, rfl, Costs.one, fun s h1 h2 => by omega⟩ (fun i σ Hx _ hP => ?_) (fun i x σ Hx H' hi hP hy => ?_) (fun σ Hx hP => ?_)⟩
    · obtain ⟨cs, ah, y5, y6, y7, y8, y10, rfl, W⟩ := hP
      exact SqL.of W.el
    · obtain ⟨cs, ah, y5, y6, y7, y8, y10, rfl, W⟩ := hP
      obtain ⟨T, x1, x2, rfl, nT, rfl, e1, e2⟩ := hy
      cases e1
      rw [len] at hi
      obtain ⟨pv, epv⟩ : ∃ v, (ps ++ [0])[i]? = some v := ⟨_, List.getElem?_eq_getElem (by simp; omega)⟩
      have e2 : ((ps ++ [0]).map V.int)[i]? = some x2 := e2
      rw [List.getElem?_map, epv] at e2
      cases e2
      have eprF : prF ps (i : Int) = pv := cF_at epv
      have sT := same_upd (o := .tup [.int (1 + (i : Nat)), .int pv]) nT
      obtain ⟨bv, ebv⟩ : ∃ v, bs[i + 1]? = some v := ⟨_, List.getElem?_eq_getElem (by omega)⟩
      have hb := hB (i + 1) bv ebv
      have hb' : BackAt rs ((i : Int) + 1) bv := by rw [Int.natCast_add] at hb; exact hb
      have blt : bv < (i : Int) + 1 := hb'.lt (fun r h => (hr0 r h).2.1) (by omega)
      have b0 := hb.lo
      refine ⟨T, _, rfl, .inl (.inl upd_same), rfl, _, _, rfl, _, _, rfl, rfl, ?_⟩
      refine ⟨_, rfl, _, rfl, pb, _, _, .int bv, rfl, rfl, SqL.of (sT _ _ W.eb), by rw [show (1 : Int) + (i : Nat) = ((i + 1 : Nat) : Int) by omega]; exact IntsA.at ebv, _, rfl, bv, 1 + (i : Nat), rfl, ⟨by omega, by omega, by omega, by omega⟩, fun D nD => ?_⟩
      refine lc_pairs walk_range ((List.range (1 + ((i : Nat) : Int) - bv).toNat).map fun (j : Nat) => (cF cs (bv + j), bv + (j : Int))) nD (by simp) (by omega) (fun _ _ => trivial) (fun j x p H4 H5 Kt Kn ep s4 hy hK => ?_) (fun H4 s4 hLs => ?_)
      · obtain ⟨rfl, rfl⟩ := hy
        have lj := (List.getElem?_eq_some_iff.mp ep).1
        rw [List.length_map, List.length_range] at lj
        rw [List.getElem?_map, List.getElem?_range lj] at ep
        cases ep
        obtain ⟨k, hk⟩ := Int.eq_ofNat_of_zero_le (show 0 ≤ bv + (j : Int) by omega)
        have lk : k < cs.length := by have := W.lc; omega
        have ek : cs[k]? = some (cF cs (bv + j)) := by
          rw [List.getElem?_eq_getElem lk, hk]
          exact congrArg some (cF_at (List.getElem?_eq_getElem lk)).symm
        refine ⟨rfl, ?_⟩
        refine ⟨_, rfl, _, rfl, pc, _, _, .int (cF cs (bv + j)), rfl, rfl, SqL.of (s4 _ _ (sT _ _ W.ec)), by rw [hk] at ek ⊢; exact IntsA.at ek, _, rfl, (by show 2 ≤ sizeLine; decide), fun T2 nT2 => ?_⟩
        exact hK T2 _ (same_upd nT2) upd_same
      · obtain ⟨us, eD, hpr⟩ := hLs
        refine ⟨D, us, _, rfl, eD, hpr, ?_, fun p T2 hp hmin eT2 => ?_⟩
        · have : 0 < (1 + ((i : Nat) : Int) - bv).toNat := by omega
          intro z
          have := congrArg List.length z
          rw [List.length_map, List.length_range] at this
          simp at this
          omega
        obtain ⟨j, hj, rfl⟩ := List.mem_map.mp hp
        rw [List.mem_range] at hj
        have sX : Same Hx H4 := sT.trans s4
        have hmin' : ∀ o', bv ≤ o' → o' < (i : Int) + 1 → cF cs (bv + (j : Int)) ≤ cF cs o' := fun o' z1 z2 => by
          have := hmin (cF cs o', o') (List.mem_map.mpr ⟨(o' - bv).toNat, List.mem_range.mpr (by omega), by rw [show bv + (((o' - bv).toNat : Nat) : Int) = o' by omega]⟩)
          rcases this with z | z
          · exact Int.le_of_lt z
          · exact Int.le_of_eq z.1
        have hfst' : ∀ o', bv ≤ o' → o' < bv + (j : Int) → cF cs (bv + (j : Int)) < cF cs o' := fun o' z1 z2 => by
          have := hmin (cF cs o', o') (List.mem_map.mpr ⟨(o' - bv).toNat, List.mem_range.mpr (by omega), by rw [show bv + (((o' - bv).toNat : Nat) : Int) = o' by omega]⟩)
          rcases this with z | z
          · exact z
          · exact absurd z.2 (by show ¬ bv + (j : Int) ≤ o'; omega)
        have lcs := W.lc
        have lah := W.la
        have sf : FirstB rs ((i + 1 : Nat) : Int) (cF (cs ++ [cF cs (bv + (j : Int)) + pv])) (cF (ah ++ [bv + (j : Int)])) := fun s h1 h2 b o hbb h3 h4 => by
          by_cases c : s = ((i + 1 : Nat) : Int)
          · have e1 : cF (ah ++ [bv + (j : Int)]) s = bv + (j : Int) := cF_new (by rw [c, lah])
            rw [e1] at h4 ⊢
            have ebb : b = bv := by rw [c, Int.natCast_add] at hbb; exact hbb.eq hb'
            rw [cF_old (by omega) (by omega), cF_old (by omega) (by omega)]
            exact hfst' o (by omega) h4
          · obtain ⟨z0, z1, _⟩ := W.cst.from_ s h1 (by omega)
            have e1 : cF (ah ++ [bv + (j : Int)]) s = cF ah s := cF_old (by omega) (by omega)
            rw [e1] at h4 ⊢
            have b0 := hbb.lo
            rw [cF_old (by omega) (by omega), cF_old (by omega) (by omega)]
            exact W.fst s h1 (by omega) b o hbb h3 h4
        have st := W.cst.step W.lc W.la hb' (show bv ≤ bv + (j : Int) by omega) (by omega) hmin'
        refine ⟨T2, _, rfl, .inl (.inl eT2), rfl, _, _, rfl, _, _, rfl, rfl, ?_⟩
        have ec4 := sX _ _ W.ec
        have ea4 := sX _ _ W.ea
        refine ⟨_, rfl, .inl ⟨rfl, _, SqL.of ec4⟩, _, rfl, _, rfl, _, _, rfl, rfl, pc, _, _, rfl, rfl, ec4, small1000 (by rw [List.length_map, W.lc]; omega), ?_⟩
        have ea5 : (upd H4 pc (.lst (cs.map V.int ++ [.int (cF cs (bv + (j : Int)) + pv)]))) pa = some (.lst (ah.map V.int)) := by rw [upd_ne (Ne.symm pca)]; exact ea4
        refine ⟨_, rfl, .inl ⟨rfl, _, SqL.of ea5⟩, _, rfl, pa, _, _, rfl, rfl, ea5, small1000 (by rw [List.length_map, W.la]; omega), ?_⟩
        refine ⟨cs ++ [cF cs (bv + (j : Int)) + pv], ah ++ [bv + (j : Int)], _, _, _, _, _, rfl, Same.put (Same.put (W.sm.trans sX) npc0) npa0, ?_, ?_, ?_, ?_, by rw [List.length_append, W.lc]; rfl, by rw [List.length_append, W.la]; rfl, by rw [← eprF]; exact st, sf⟩
        · show upd _ _ _ _ = _
          rw [upd_ne pba, upd_ne pbc]
          exact sX _ _ W.eb
        · show upd _ _ _ _ = _
          rw [upd_ne pca, upd_same, List.map_append]
          rfl
        · show upd _ _ _ _ = _
          rw [upd_same, List.map_append]
          rfl
        · show upd _ _ _ _ = _
          rw [upd_ne (Ne.symm pla), upd_ne (Ne.symm plc)]
          exact sX _ _ W.el
    · obtain ⟨cs, ah, y5, y6, y7, y8, y10, rfl, W⟩ := hP
      rw [len] at W
      have la := W.la
      have lc := W.lc
      obtain ⟨ah', v, rfl⟩ : ∃ ah' v, ah = ah' ++ [v] := by
        have hne : ah ≠ [] := fun z => by rw [z] at la; cases la
        exact ⟨_, _, (List.dropLast_concat_getLast hne).symm⟩
      have lah : ah'.length = ps.length + 1 := by rw [List.length_append] at la; exact Nat.succ.inj la
      have ev : cF (ah' ++ [v]) ((ps.length : Int) + 1) = v := cF_new (by omega)
      have em : atI ((ah' ++ [v]).map V.int) (-1) = some (.int v) := by rw [List.map_append]; exact atI_last _ _
      have cst : Costs rs (prF ps) ((ps.length : Int) + 1) (cF cs) (cF (ah' ++ [v])) := by have := W.cst; rw [Int.natCast_add] at this; exact this
      have fstW : FirstB rs ((ps.length : Int) + 1) (cF cs) (cF (ah' ++ [v])) := by have := W.fst; rw [Int.natCast_add] at this; exact this
      have ea := W.ea
      have sm := W.sm
      generalize hah : ah' ++ [v] = ah at em ev ea cst la fstW
      have prm : prF ps ((ps.length : Int) + 1 - 1) = 0 := by
        rw [show (ps.length : Int) + 1 - 1 = (ps.length : Nat) by omega]
        exact cF_at (by simp)
      obtain ⟨v0, v1, _⟩ := cst.from_ ((ps.length : Int) + 1) (by omega) (Int.le_refl _)
      rw [ev] at v0 v1
      refine ⟨Nat.zero_le _, fun pq npq => ?_⟩
      have sq := same_upd (o := .lst []) npq
      have npq0 : H pq = none := sm.free npq
      have paq : pa ≠ pq := ne_of_none ea npq
      refine ⟨_, rfl, 1, rfl, pa, _, -1, _, rfl, rfl, SqL.of (sq _ _ ea), em, ?_⟩
      refine ⟨fun m σ Hy => ∃ (pre : List Int) (spot : Int) (y6 y7 y8 y10 : Option V), m = spot.toNat ∧ σ = [some (.ref a), some (.ref b), some (.ref pb), some (.ref pc), some (.ref pa), some (.int spot), y6, y7, y8, some (.ref pq), y10] ∧ Same H Hy ∧ IntsA Hy pa ah ∧ IntsA Hy pq pre ∧ 0 ≤ spot ∧ spot ≤ (ps.length : Int) ∧ (pre.length : Int) + spot ≤ (ps.length : Int) ∧ (∀ l, FollR (cF ah) spot l → Foll (cF ah) ((ps.length : Int) + 1) (pre ++ l)) ∧
        ∀ l, Rest rs (prF ps) (cF cs) spot l → Way rs ((ps.length : Int) + 1) (pre ++ l) ∧ costF (prF ps) (pre ++ l) = cF cs ((ps.length : Int) + 1),
        ⟨_, [], v, _, _, _, _, rfl, rfl, sm.trans sq, sq _ _ ea, upd_same, v0, by omega, by show (0 : Int) + v ≤ _; omega, fun l hl => ?_, fun l hl => ?_⟩, ?_⟩
      · unfold FollR at hl
        by_cases z : v = 0
        · rw [if_pos z] at hl
          rw [hl]
          exact ev.trans z
        · rw [if_neg z] at hl
          obtain ⟨l', rfl, hf⟩ := hl
          exact ⟨by rw [ev]; omega, by rw [show v - 1 + 1 = v by omega]; exact hf⟩
      · have := cst.way (l := l) (s := (ps.length : Int) + 1) (by omega) (Int.le_refl _) (by rw [ev]; exact hl)
        rw [prm, Int.add_zero] at this
        exact this
      rintro m σ Hy ⟨pre, spot, y6, y7, y8, y10, rfl, rfl, s2, eaY, eq, p0, p1, p2, hF, hR⟩
      refine ⟨_, rfl, spot, 0, rfl, rfl, _, rfl, ite2 (fun c => ?_) (fun c => ?_)⟩
      · have c' : 0 < spot := of_decide_eq_true c
        obtain ⟨f1, f2, f3⟩ := cst.from_ spot (by omega) (by omega)
        obtain ⟨k, hk⟩ := Int.eq_ofNat_of_zero_le p0
        have lk : k < ah.length := by omega
        have ek : ah[k]? = some (cF ah spot) := by
          rw [List.getElem?_eq_getElem lk, hk]
          exact congrArg some (cF_at (List.getElem?_eq_getElem lk)).symm
        refine ⟨_, fun σ' H' h => h, ?_⟩
        refine ⟨_, rfl, .inl ⟨rfl, _, SqL.of eq⟩, _, rfl, _, _, rfl, rfl, pq, _, _, rfl, rfl, eq, small1000 (by rw [List.length_map]; omega), ?_⟩
        have ea5 : (upd Hy pq (.lst (pre.map V.int ++ [.int (spot - 1)]))) pa = some (.lst (ah.map V.int)) := by rw [upd_ne paq]; exact eaY
        refine ⟨_, rfl, _, rfl, pa, _, _, .int (cF ah spot), rfl, rfl, SqL.of ea5, by rw [hk] at ek ⊢; exact IntsA.at ek, ?_⟩
        refine ⟨(cF ah spot).toNat, by omega, pre ++ [spot - 1], cF ah spot, _, _, _, _, rfl, rfl, Same.put s2 npq0, ea5, ?_, f1, by omega, ?_, fun l hl => ?_, fun l hl => ?_⟩
        · show upd _ _ _ _ = _
          rw [upd_same, List.map_append]
          rfl
        · rw [List.length_append]
          show ((pre.length + 1 : Nat) : Int) + _ ≤ _
          omega
        · have h2 : FollR (cF ah) spot ((spot - 1) :: l) := by
            unfold FollR
            rw [if_neg (by omega)]
            refine ⟨l, rfl, ?_⟩
            unfold FollR at hl
            by_cases z : cF ah spot = 0
            · rw [if_pos z] at hl
              rw [hl]
              exact z
            · rw [if_neg z] at hl
              obtain ⟨l', rfl, hf⟩ := hl
              exact ⟨by omega, by rw [show cF ah spot - 1 + 1 = cF ah spot by omega]; exact hf⟩
          rw [List.append_assoc]
          exact hF _ h2
        · obtain ⟨w1, w2⟩ := cst.way (l := l) (s := spot) (by omega) (by omega) hl
          have := hR ((spot - 1) :: l) (by unfold Rest; rw [if_neg (by omega)]; exact ⟨l, rfl, w1, w2⟩)
          rw [List.append_assoc]
          exact this
      · have c' : spot = 0 := by
          have : ¬ 0 < spot := fun z => c (decide_eq_true z)
          omega
        obtain ⟨w1, w2⟩ := hR [] (by unfold Rest; rw [if_pos c'])
        rw [List.append_nil] at w1 w2
        have hpath : Foll (cF ah) ((ps.length : Int) + 1) pre := by
          have := hF [] (by unfold FollR; rw [if_pos c'])
          rwa [List.append_nil] at this
        refine ⟨_, rfl, pq, _, rfl, SqL.of eq, fun l nl => ?_⟩
        refine q l _ pre (s2.free nl) (Same.trans s2 (same_upd nl)) ?_ w1 (fun l' hl' => ?_) ⟨_, _, cst, fstW, hpath⟩
        · show upd _ _ _ _ = _
          rw [upd_same, List.map_reverse]
        · have := cst.low (l := l') (s := (ps.length : Int) + 1) (by omega) (Int.le_refl _) hl'
          rw [prm] at this
          omega
end

open LamX
theorem atI_m1 {xs : List V} {v : V} (h : xs[xs.length - 1]? = some v) : atI xs (-1) = some v := by
  have lt := (List.getElem?_eq_some_iff.mp h).1
  unfold atI ixN
  rw [if_neg (by omega), if_pos (by omega)]
  show xs[(-1 + (xs.length : Int)).toNat]? = some v
  rw [show (-1 + (xs.length : Int)).toNat = xs.length - 1 by omega]
  exact h
theorem TbL.refl {P : Addr} {q : Str} {H : Hp} (t : TabS H P q) : TbL P q H H := ⟨t, fun _ _ e _ => e⟩
theorem TbL.trans {P : Addr} {q : Str} {H H1 H2 : Hp} (a : TbL P q H H1) (b : TbL P q H1 H2) : TbL P q H H2 := ⟨b.1, fun x o e n => b.2 x o (a.2 x o e n) n⟩
theorem TbL.of {P : Addr} {q : Str} {H H2 : Hp} (t : TabS H P q) (s : Same H H2) : TbL P q H H2 := ⟨t.ext s, fun b o e _ => s b o e⟩
theorem TbL.lst {P : Addr} {q : Str} {H H2 : Hp} {a : Addr} {xs : List V} (t : TbL P q H H2) (e : H a = some (.lst xs)) : H2 a = some (.lst xs) := t.2 _ _ e fun _ z => nomatch z
theorem TbL.tup {P : Addr} {q : Str} {H H2 : Hp} {a : Addr} {xs : List V} (t : TbL P q H H2) (e : H a = some (.tup xs)) : H2 a = some (.tup xs) := t.2 _ _ e fun _ z => nomatch z
theorem LsA.tbl {P : Addr} {q : Str} {H H2 : Hp} {a : Addr} {ps : List (Int × Int)} (h : LsA H a ps) (t : TbL P q H H2) : LsA H2 a ps := by
  obtain ⟨us, e, p⟩ := h
  exact ⟨us, t.lst e, p.1, fun i r er => let ⟨x, h1, h2⟩ := p.2 i r er; ⟨x, h1, t.tup h2⟩⟩
theorem TabS.upd {H : Hp} {P : Addr} {q : Str} {l : Addr} {xs : List V} {o : HO} (t : TabS H P q) (e : H l = some (.lst xs)) : TabS (L2.upd H l o) P q := by
  obtain ⟨ps, hP, ht, hc⟩ := t
  refine ⟨ps, by rw [upd_ne (ne_of hP e (fun z => nomatch z))]; exact hP, ht, fun pos cv hcv => ?_⟩
  obtain ⟨c, ec, hco⟩ := hc pos cv hcv
  refine ⟨c, ec, ?_⟩
  rw [upd_ne (ne_of hco e (fun z => by unfold CodeO at z; cases z))]
  exact hco

open LamX
/-! ### a lambda is made: all but its own table stands -/
def ButAt (P : Addr) (H H1 : Hp) : Prop := ∀ b o, b ≠ P → H b = some o → H1 b = some o
theorem lam_make3 {X : Cx} {pins : List (Addr × Obj)} {σ : L2.St} {H : Hp} {s : Shared} {c P : Addr} {params : Arguments} {body : Expr} {scope : Scope} {pos : Pos} {E : Value → Shared → Prop} {Q : Value → Shared → Prop} (I : Inv X pins σ H s) (TB : LamX.TabB X.base X.mg c P) (hcode : X.env.code = .ref c)
    (hT : TabS H P (X.env.qual ++ "<lambda>")) (hdef : defaultsOf params X.env = ([], [])) (hfree : ∀ y ∈ scope.names, y.2 = .free → ∃ c, X.env.cells.lookup y.1 = some c)
    (fin : ∀ (f c' : Addr) (pm ctv : Value) (H1 : Hp) (s' : Shared), Inv X pins σ H1 s' → ButAt P H H1 → TabS H1 P (X.env.qual ++ "<lambda>") →
      s'.heap.get? f = some (PySem.W.kla_obj "<lambda>" (X.env.qual ++ "<lambda>") params body scope (cloFrom X.env.cells scope.names []) pm c' ctv) → H1 c' = some (CodeO c' (X.env.qual ++ "<lambda>")) → Q (.ref f) s') :
    wpAny (model X.prog X.w) X.A (eval (.Lambda params body scope pos) X.env) Q E s := by
  obtain ⟨tb, atP, triples, named⟩ := id hT
  have there : s.heap.get? P = some { cls := .none, data := .fields tb } := I.hok P _ atP
  refine PySem.W.kla_eval hdef ?_
  cases found : codeAmong pos tb.toList with
  | some old =>
    obtain ⟨c', rfl, isCode⟩ := named pos old found
    exact PySem.W.kla_makeFunctionHit (mg := X.mg) (c := c) (P := P) (ps := tb) (closure_ok hfree) I.ok.glob (I.mod.glob.keeps I.bk) hcode (TB.code.keeps I.bk) there triples found (TB.bm.keeps I.bk) fun ctv h' tk kept _ =>
      fin h'.objs.size c' _ ctv H _ (I.kept fun b o e => Heap.get?_push_of_some _ (kept b o e)) (fun _ _ _ e => e) hT (Heap.get?_push_size _ rfl) isCode
  | none =>
    refine PySem.W.kla_makeFunction (mg := X.mg) (c := c) (P := P) (ps := tb) (closure_ok hfree) I.ok.glob (I.mod.glob.keeps I.bk) hcode (TB.code.keeps I.bk) there triples found TB.gP (TB.bm.keeps I.bk) fun c' ctv h' tk kept ge _ rec_ grown => ?_
    obtain ⟨c2, oc, vs, t, same, hoc, hd, hv⟩ := rec_
    cases same
    have new : H c' = none := I.hok.fresh ge
    have J := inv_table (t' := tk) (more := #[rawInt pos.line, rawInt pos.col, .ref c']) (h' := h'.push (PySem.W.kla_obj "<lambda>" (X.env.qual ++ "<lambda>") params body scope (cloFrom X.env.cells scope.names []) ((X.mg "__name__").getD .none) c' ctv)) I atP
      (fun b o hb e => Heap.get?_push_of_some _ (kept b o hb e)) (Heap.get?_push_of_some _ grown) ge ⟨oc, vs, t, Heap.get?_push_of_some _ hoc, hd, hv⟩
    have but : ButAt P H (upd (upd H P (.tbl (tb ++ #[rawInt pos.line, rawInt pos.col, .ref c']))) c' (CodeO c' (X.env.qual ++ "<lambda>"))) := fun b o hb e => by
      rw [upd_ne (ne_of_none e new), upd_ne hb]
      exact e
    have aslist : (tb ++ #[rawInt pos.line, rawInt pos.col, .ref c']).toList = tb.toList ++ [rawInt pos.line, rawInt pos.col, .ref c'] := by simp
    refine fin h'.objs.size c' _ ctv _ _ J but ⟨_, by rw [upd_ne (ne_of_none atP new), upd_same], by rw [aslist]; exact PySem.TriplesOk_snoc _ _ _ _ triples, fun p' cv hcv => ?_⟩ (Heap.get?_push_size _ rfl) upd_same
    rw [aslist] at hcv
    rcases among_app _ triples hcv with z | z
    · obtain ⟨c0, e1, e2⟩ := named p' cv z
      exact ⟨c0, e1, but _ _ (fun w => by rw [w, atP] at e2; exact codeO_ne tb (Option.some.inj e2).symm) e2⟩
    · exact ⟨c', z, upd_same⟩
def tSortL3 (P : Addr) (q : Str) (Kf : L2.St → Hp → V → PyData → Prop) (t : TA) : TE := fun σ H Q => t σ H fun vs H1 => TabS H1 P q ∧ ∃ (a : Addr) (n : Nat) (k : V → PyData), vs = [.ref a] ∧ H1 a = some (.rng 0 (n : Int)) ∧ n ≤ 10000 ∧
  PySem.W.AllAlike ((rngV n).map k) ∧ PySem.W.Sortable ((rngV n).map k) ∧ (∀ x ∈ rngV n, (k x).depth ≤ 8) ∧ (∀ x ∈ rngV n, ∀ H2, TbL P q H1 H2 → Kf σ H2 x (k x)) ∧ ∀ H2 p, TbL P q H1 H2 → ButAt P H1 H2 → H2 p = none → Q (.ref p) (upd H2 p (.lst ((rngV n).mergeSort (PySem.W.dataLe false k))))
section
variable {X : Cx} {c P : Addr} {e : Expr} {t : TA} {params : Arguments} {body : Expr} {scope : Scope} {a : Str} {lpos kpos p pos : Pos} {Kf : L2.St → Hp → V → PyData → Prop}
theorem pe_sortedL3 (TB : LamX.TabB X.base X.mg c P) (hcode : X.env.code = .ref c) (hg : Gl X "sorted") (hm : X.mg "sorted" = none) (hr : Room 3 X.A) (ha : PA X [e] t) (hdef : defaultsOf params X.env = ([], [])) (LP : LamP X.env.scope scope a)
    (hbind : ∀ (v pm ctv : Value) (c' : Addr), bindArgs (PySem.W.kla_fn "<lambda>" (X.env.qual ++ "<lambda>") params body scope (cloFrom X.env.cells scope.names []) pm (.ref c') ctv) ⟨[v], []⟩ = pure [(a, v)])
    (hkey : KeyBody X scope a body Kf) (h1 : backTo pos (starEach [e] X.env) = (false, eval e X.env) :: backTo pos (starEach [] X.env) := by rfl) (h2 : (backTo pos (starEach [e] X.env)).any (·.1) = false := by rfl) :
    PE X (.Call (.Name "sorted" p) [e] [⟨some "key", .Lambda params body scope lpos, kpos⟩] pos) (tSortL3 P (X.env.qual ++ "<lambda>") Kf t) := by
  refine ⟨fun pins s σ H Q I h => ?_⟩
  refine wpAny_Call_Name_kw (ld_blt I hg hm (show bootBuiltins "sorted" = some (.builtin "sorted") by decide +kernel) ?_ (by decide) (by decide))
  refine PyProof.Rows.callWith_kw (thn (ha.run pos pins s σ H _ I h) fun us s1 ⟨vs, H1, I1, r1, hT, aL, n, k, ev, hS, hn, hal, hso, hdp, hkf, q1⟩ => ?_) h1 h2 rfl rfl
  subst ev
  obtain rfl := Vals.ref1 r1
  show wpAny _ _ (evalAll [do let v ← eval (.Lambda params body scope lpos) X.env; standAt pos; pure v]) _ _ s1
  have hfree : ∀ y ∈ scope.names, y.2 = .free → ∃ c, X.env.cells.lookup y.1 = some c := fun y hy e => by
    rcases LP.free y hy e with z | z
    · exact I.ok.has _ (.inl z)
    · exact I.ok.has _ (.inr z)
  refine wpAny_evalAll_cons (wpAny_bind (lam_make3 I1 TB hcode hT hdef hfree fun f c' pm ctv H2 s2 I2 b2 T2 hf hc => wpAny_bind (wpAny_standAt (wpAny_pure (wpAny_evalAll_nil ?_)))))
  have x2 : ∀ b o, H1 b = some o → (∀ ps, o ≠ .tbl ps) → H2 b = some o := fun b o e n => b2 b o (fun z => by
    obtain ⟨ps, hP, _⟩ := hT
    rw [z, hP] at e
    exact n ps (Option.some.inj e).symm) e
  have tb2 : TbL P (X.env.qual ++ "<lambda>") H1 H2 := ⟨T2, x2⟩
  have hS2 : H2 aL = some (.rng 0 (n : Int)) := x2 _ _ hS (fun _ w => nomatch w)
  obtain ⟨t0, t1, t2, hra⟩ := (show ObjOk X.prog X.w H2 s2.heap aL (.rng 0 (n : Int)) from I2.hok aL _ hS2)
  show wpAny _ _ (call (.builtin "sorted") [.ref aL] [(Str.ofString "key", .ref f)]) _ _ s2
  have hun := hr.un
  refine sorted_key_range k hr.hd hra hn hal hso (fun x hx => by have := hdp x hx; omega) (fun v x hR hx h tk kp => ?_) (fun pn out c h' tk n0 kp ho eo => ?_)
  · have I3 : Inv X pins σ H2 { s2 with heap := h, toks := tk } := I2.kept kp
    have hf3 := kp _ _ hf
    obtain ⟨⟨oc, vs', t', hoc, hdc, hvc⟩, _, _⟩ := I2.hok c' _ hc
    have hr2 : Room 1 X.A.in1.in1 := hr.in1.in1
    refine wpAny_call (codeAny_mono (R := fun r s' => ∃ u, r = .ok (.ret u) ∧ PySem.W.KeyPure (k x) { s2 with heap := h, toks := tk } u s') ?_ fun r s' hq => ?_)
    · refine PySem.W.kla_callFunE (by have := hr2.dp; omega) hf3 rfl LP.co LP.gen rfl ⟨c', oc, vs', t', rfl, kp _ _ hoc, hdc, hvc⟩ ?_
      rw [hbind]
      refine wpAny_pure (wpAny_newFunctionEnv (fun y hy => LP.own y hy) (fun y hy => by rw [List.mem_singleton.mp hy]; exact LP.par) (fun h₁ hns hsb => ⟨I3.nolimit.fresh _ hsb, ?_⟩) LP.kind)
      have kp1 : ∀ b o, h.get? b = some o → h₁.get? b = some o := fun b o e => hsb.extBut b o (Nat.ne_of_lt (Heap.lt_size e)) (Heap.get?_push_of_some _ e)
      show codeAny _ _ (.expr body (lamEnv X scope h.objs.size f c')) _ _
      refine PySem.W.kla_codeExpr (wpAny_mono (hkey pins σ H2 { s2 with heap := h, toks := tk } { s2 with heap := h₁, toks := tk + 1 } _ h.objs.size f c' v x (k x) I3 kp1 hns hR (hkf x hx H2 tb2)) (fun u s' hq => ?_) fun _ _ z => z.elim)
      obtain ⟨h5, tk5, rfl, k5, rd⟩ := hq
      exact ⟨u, rfl, h5, tk5, rfl, fun b o e => k5 b o (kp1 b o e), rd⟩
    · obtain ⟨u, rfl, hk⟩ := hq
      exact hk
  · have hlen : ((rngV n).mergeSort (PySem.W.dataLe false k)).length ≤ sizeLine := by rw [List.length_mergeSort, List.length_map, List.length_range]; exact Nat.le_trans hn (by decide)
    have np : H2 pn = none := HOk.gone (show HOk X.prog X.w H2 s2.heap from I2.hok) n0
    exact ⟨.ref _, upd H2 pn (.lst ((rngV n).mergeSort (PySem.W.dataLe false k))), Inv.laidN (t' := tk) I2 kp n0 np ⟨hlen, _, c, eo, ho⟩, rfl, q1 H2 _ tb2 b2 np⟩
end

open LamX
section
variable {X : Cx} {scope : Scope} {a : Str} {p1 p2 p3 p4 p5 p6 p7 p8 p9 : Pos} {j1 j2 j3 : Nat}
/-- lambda a: y[a][1], y captured: a list of tuples -/
def KfAt1S (K : PySem.W.Frag) (i : Nat) : L2.St → Hp → V → PyData → Prop := fun σ H x d => ∃ (l t : Addr) (ls ts : List V) (n k : Int), σ[i]? = some (some (.ref l)) ∧ x = .int n ∧ (SqL K H l ls ∨ SqT K H l ls) ∧ atI ls n = some (.ref t) ∧ SqT K H t ts ∧ atI ts 1 = some (.int k) ∧ d = .int k
theorem key_at1S {i : Nat} {y : Str} (LP : LamP X.env.scope scope a) (hN : X.N[i]? = some y) (hc : X.env.scope.names.lookup y = some .cell) (hy : scope.names.lookup y = some .free) (hd : (a == ("__debug__" : Str)) = false) (hd2 : (y == ("__debug__" : Str)) = false) (hcd : (y == ("__classdict__" : Str)) = false) :
    KeyBody X scope a (.Subscript (.Subscript (.Name y p1) (.Name a p2) p3) (.Constant (.int 1) j1 p4) p5) (KfAt1S X.K i) := by
  intro pins σ H s s1 A L f c' v x d I kp hn r h
  obtain ⟨l, t, ls, ts, n, k, hv, rfl, hS, e0, hT, e1, rfl⟩ := h
  obtain ⟨tn, rfl⟩ := r
  have I1 : Inv X pins σ H { s with heap := s1.heap, toks := s.toks } := I.kept kp
  obtain ⟨c, u, g1, g2, g3⟩ := cap_at I1 LP hN hc hy hv
  cases g3
  obtain ⟨jts, rw', pt, hz2⟩ := I1.tuple hT
  obtain ⟨u1, a1, t1, rfl⟩ := vals_at rw' e1
  have ny : ∀ p, Gv X.prog X.w A (lamEnv X scope L f c') (.Name y p) s1 (fun u => u = .ref l) := fun p => gv_free LP.kind hy g1 g2 hd2 hcd
  have na : ∀ p, Gv X.prog X.w A (lamEnv X scope L f c') (.Name a p) s1 (fun u => ∃ t, u = .int n t) := fun p tk0 Q E h => (gv_loc (pos := p) LP.kind LP.par hn (by simp) hd : Gv X.prog X.w A (lamEnv X scope L f c') (.Name a p) s1 (fun u => u = .int n tn)) tk0 Q E fun u tk eu => h u tk ⟨tn, eu⟩
  rcases hS with hS | hS
  · obtain ⟨its, rv, pl, hz⟩ := I1.list hS
    obtain ⟨u0, a0, w0⟩ := vals_at rv e0
    cases w0
    refine gv_ixT (gv_ixL (ny p1) (na p2) pl (by rw [← rv.length]; exact hz) a0 (fun _ _ => rfl)) gv_int pt (by rw [← rw'.length]; exact hz2) a1 (fun _ _ => rfl) s1.toks _ _ fun u tk eu => ?_
    subst eu
    exact ⟨s1.heap, tk, rfl, fun _ _ e => e, .int _ _⟩
  · obtain ⟨its, rv, pl, hz⟩ := I1.tuple hS
    obtain ⟨u0, a0, w0⟩ := vals_at rv e0
    cases w0
    refine gv_ixT (gv_ixT (ny p1) (na p2) pl (by rw [← rv.length]; exact hz) a0 (fun _ _ => rfl)) gv_int pt (by rw [← rw'.length]; exact hz2) a1 (fun _ _ => rfl) s1.toks _ _ fun u tk eu => ?_
    subst eu
    exact ⟨s1.heap, tk, rfl, fun _ _ e => e, .int _ _⟩
end

open LamX
/-! ### most_dues -/
theorem get_list {X : Cx} : PGet X (rIxL X.K) := by
  intro pins s σ H x y v u Q I rx ry h
  obtain ⟨p, xs, i, z, rfl, rfl, hq, he, q⟩ := h
  cases rx
  obtain ⟨t, rfl⟩ := ry
  obtain ⟨its, r, pl, hz⟩ := I.list hq
  obtain ⟨j, h1, h2, h3, h4, h5⟩ := atI_get he
  obtain ⟨w, ew, rw'⟩ := r.get h2
  have hl := r.length
  have hn := line63
  have fin : EP X pins σ Q w s := ⟨z, H, I, rw', q⟩
  by_cases h0 : 0 ≤ i
  · have hj : i.toNat = j := by
      rw [seqIndex_of h0 h5] at h1
      exact Option.some.inj h1
    exact wpAny_getItem_list pl.isList h0 (by omega) (by rw [hj]; simpa using ew) fin
  · have hj : (i + (its.toArray.size : Int)).toNat = j := by
      rw [seqIndex_neg (by omega) h4] at h1
      rw [List.size_toArray, ← hl]
      exact Option.some.inj h1
    exact wpAny_getItem_list_neg pl.isList (by omega) (by rw [List.size_toArray] <;> omega) (by omega) (by rw [hj]; simpa using ew) fin
abbrev qD : Str := "most_dues" ++ ".<locals>." ++ "<lambda>"
def kD (rs : List (Int × Int)) : V → Int
  | .int n => (rs.getD n.toNat (0, 0)).2
  | _ => 0
theorem order_ofD (rs : List (Int × Int)) (n : Nat) : ∃ os : List Nat, (rngV n).mergeSort (PySem.W.dataLe false fun x => PyData.int (kD rs x)) = os.map (fun i : Nat => V.int (i : Int)) ∧ os.Perm (List.range n) ∧ os.Pairwise fun i j => (rs.getD i (0, 0)).2 ≤ (rs.getD j (0, 0)).2 := by
  rw [PySem.W.dataLe_int]
  have hp := List.mergeSort_perm (rngV n) (fun a b => decide (kD rs a ≤ kD rs b))
  have hs := List.pairwise_mergeSort (le := fun a b => decide (kD rs a ≤ kD rs b)) (fun a b c h1 h2 => decide_eq_true (Int.le_trans (of_decide_eq_true h1) (of_decide_eq_true h2))) (fun a b => by
    rcases Int.le_total (kD rs a) (kD rs b) with z | z
    · rw [decide_eq_true z]; rfl
    · rw [decide_eq_true z, Bool.or_true]) (rngV n)
  revert hp hs
  generalize (rngV n).mergeSort (fun a b => decide (kD rs a ≤ kD rs b)) = xs
  intro hp hs
  have bk : ∀ x ∈ xs, ∃ i : Nat, i < n ∧ x = V.int (i : Int) := fun x hx => by
    obtain ⟨i, hi, rfl⟩ := List.mem_map.mp (hp.mem_iff.mp hx)
    exact ⟨i, List.mem_range.mp hi, rfl⟩
  let nt : V → Nat := fun x => match x with | .int n => n.toNat | _ => 0
  have e : xs = (xs.map nt).map (fun i : Nat => V.int (i : Int)) := by
    rw [List.map_map]
    conv => lhs; rw [← List.map_id xs]
    refine List.map_congr_left fun x hx => ?_
    obtain ⟨i, _, rfl⟩ := bk x hx
    show V.int (i : Int) = V.int (((i : Int).toNat : Nat) : Int)
    simp
  refine ⟨xs.map nt, e, ?_, ?_⟩
  · have h := hp.map nt
    have e2 : (rngV n).map nt = List.range n := by
      rw [List.map_map]
      conv => rhs; rw [← List.map_id (List.range n)]
      refine List.map_congr_left fun i _ => ?_
      show (i : Int).toNat = i
      omega
    rwa [e2] at h
  · rw [List.pairwise_map]
    refine List.Pairwise.imp_of_mem (fun {a b} ha hb h => ?_) hs
    obtain ⟨i, _, rfl⟩ := bk a ha
    obtain ⟨j, _, rfl⟩ := bk b hb
    exact of_decide_eq_true h
def pairsF (rs : List (Int × Int)) (ds : List Int) (os : List Nat) : List ((Int × Int) × Int) := os.map fun k => (rs.getD k (0, 0), ds.getD k 0)
/-- the order of the runs -/
def OrdR (rs : List (Int × Int)) (os : List Nat) : Prop := (rngV rs.length).mergeSort (PySem.W.dataLe false fun x => PyData.int (kD rs x)) = os.map (fun i : Nat => V.int (i : Int))
/-- the dues that are told -/
structure DuesOk (ps : List Int) (rs : List (Int × Int)) (ds : List Int) : Prop where
  len : ds.length = rs.length
  nn : ∀ d ∈ ds, 0 ≤ d
  paid : ∀ p : Int, 0 ≤ p → p < ps.length → paidF (rs.zip ds) p ≤ prF ps p
  dual : ∃ S : List Int, (∀ r ∈ rs, ∃ p ∈ S, inR r p) ∧ (∀ p ∈ S, 0 ≤ p ∧ p < ps.length) ∧ costF (prF ps) S ≤ ds.sum
  grd : ∃ os, OrdR rs os ∧ os.Perm (List.range rs.length) ∧ Greedy (prF ps) (pairsF rs ds os)
theorem perm_sum {l l' : List Int} (h : l.Perm l') : l.sum = l'.sum := by
  induction h with
  | nil => rfl
  | cons x _ ih => rw [List.sum_cons, List.sum_cons, ih]
  | swap x y l => simp only [List.sum_cons]; omega
  | trans _ _ h1 h2 => rw [h1, h2]
theorem pairs_zip {rs : List (Int × Int)} {ds : List Int} (h : ds.length = rs.length) : pairsF rs ds (List.range rs.length) = rs.zip ds := by
  unfold pairsF
  refine List.ext_getElem ?_ fun i h1 h2 => ?_
  · rw [List.length_map, List.length_range, List.length_zip, h, Nat.min_self]
  · have h3 : i < rs.length := by rw [List.length_zip] at h2; omega
    rw [List.getElem_map, List.getElem_range, List.getElem_zip]
    rw [List.getD_eq_getElem?_getD, List.getD_eq_getElem?_getD, List.getElem?_eq_getElem h3, List.getElem?_eq_getElem (by omega)]
    rfl
theorem cF_all {ps : List Int} {p : Int} (h0 : 0 ≤ p) (h1 : p < ps.length) : prF ps p = cF ps p := by
  obtain ⟨n, rfl⟩ := Int.eq_ofNat_of_zero_le h0
  have ln : n < ps.length := by omega
  rw [cF_at (List.getElem?_eq_getElem ln)]
  exact cF_at (by rw [List.getElem?_append_left ln]; exact List.getElem?_eq_getElem ln)
theorem cF_set {ls : List Int} {k : Nat} {w p : Int} (hk : k < ls.length) (h0 : 0 ≤ p) : cF (ls.set k w) p = if p = (k : Int) then w else cF ls p := by
  obtain ⟨n, rfl⟩ := Int.eq_ofNat_of_zero_le h0
  unfold cF
  rw [Int.toNat_natCast, List.getD_eq_getElem?_getD, List.getD_eq_getElem?_getD]
  by_cases c : n = k
  · subst c
    rw [if_pos rfl, List.getElem?_set_self hk]
    rfl
  · rw [if_neg (by omega), List.getElem?_set_ne (Ne.symm c)]
theorem nodup_take {os : List Nat} {i k : Nat} (h : os.Nodup) (e : os[i]? = some k) : k ∉ os.take i := fun z => by
  obtain ⟨hi, rfl⟩ := List.getElem?_eq_some_iff.mp e
  obtain ⟨j, hj, e2⟩ := List.getElem_of_mem z
  rw [List.length_take] at hj
  rw [List.getElem_take] at e2
  have := (List.getElem_inj h).mp e2
  omega
theorem SqH.ne_none {H : Hp} {a l : Addr} {xs : List V} (h : SqH H a xs) (n : H l = none) : a ≠ l := fun z => by
  rcases h with e | e <;> rw [z, n] at e <;> cases e
theorem LsQ.tbl {P : Addr} {q : Str} {H H2 : Hp} {a : Addr} {ps : List (Int × Int)} (h : LsQ H a ps) (t : TbL P q H H2) : LsQ H2 a ps := by
  obtain ⟨us, e, p⟩ := h
  exact ⟨us, e.elim (fun e => .inl (t.lst e)) (fun e => .inr (t.tup e)), p.1, fun i r er => let ⟨x, h1, h2⟩ := p.2 i r er; ⟨x, h1, t.tup h2⟩⟩
theorem prF_nn {ps : List Int} (h : ∀ x ∈ ps, 0 ≤ x) (p : Int) : 0 ≤ prF ps p := by
  unfold prF cF
  rw [List.getD_eq_getElem?_getD]
  cases e : (ps ++ [0])[p.toNat]? with
  | none => exact Int.le_refl _
  | some v =>
    rcases List.mem_append.mp (List.mem_of_getElem? e) with z | z
    · exact h v z
    · rw [List.mem_singleton.mp z]; exact Int.le_refl _
theorem dues_ok {ps : List Int} {rs : List (Int × Int)} {ds : List Int} {os : List Nat} (hps : ∀ x ∈ ps, 0 ≤ x) (hr : RunIn ps.length rs) (hl : ds.length = rs.length) (hp : os.Perm (List.range rs.length)) (hs : os.Pairwise fun i j => (rs.getD i (0, 0)).2 ≤ (rs.getD j (0, 0)).2) (ho : OrdR rs os) (hg : Greedy (prF ps) (pairsF rs ds os)) : DuesOk ps rs ds := by
  have pz : (pairsF rs ds os).Perm (rs.zip ds) := by
    rw [← pairs_zip hl]
    exact hp.map _
  have hB : ∀ x ∈ pairsF rs ds os, ∀ p, inR x.1 p → 0 ≤ p ∧ p < ps.length := fun x hx p h => by
    have hz := pz.mem_iff.mp hx
    have hm : x.1 ∈ rs := (List.of_mem_zip (a := x.1) (b := x.2) hz).1
    obtain ⟨a, b, c⟩ := hr _ hm
    have := h.1
    have := h.2
    omega
  have h0 : ∀ p : Int, (0 ≤ p ∧ p < ps.length) → 0 ≤ prF ps p := fun p _ => prF_nn hps p
  obtain ⟨g1, g2⟩ := greedy_left (B := fun p => 0 ≤ p ∧ p < ps.length) hB h0 hg
  obtain ⟨S, s1, s2, s3⟩ := dual (B := fun p => 0 ≤ p ∧ p < ps.length) hB h0 (by
    unfold pairsF
    rw [List.map_map, List.pairwise_map]
    exact hs) hg
  have esum : duesF (pairsF rs ds os) = ds.sum := by
    unfold duesF
    rw [perm_sum (pz.map _), List.map_snd_zip (by omega)]
  refine ⟨hl, fun d hd => ?_, fun p p0 p1 => ?_, ⟨S, fun r hr => ?_, s2, by rw [← esum]; exact s3⟩, os, ho, hp, hg⟩
  · obtain ⟨i, hi, rfl⟩ := List.getElem_of_mem hd
    have hz : (rs[i], ds[i]) ∈ rs.zip ds := by
      have : (rs.zip ds)[i]? = some (rs[i], ds[i]) := by
        rw [List.getElem?_zip_eq_some]
        exact ⟨List.getElem?_eq_getElem (by omega), List.getElem?_eq_getElem hi⟩
      exact List.mem_of_getElem? this
    exact g1 _ (pz.mem_iff.mpr hz)
  · have := g2 p ⟨p0, p1⟩
    have e : paidF (pairsF rs ds os) p = paidF (rs.zip ds) p := by
      unfold paidF
      exact perm_sum (pz.map _)
    rw [← e]
    exact this
  · obtain ⟨i, hi, rfl⟩ := List.getElem_of_mem hr
    have hz : (rs[i], ds[i]) ∈ rs.zip ds := by
      have : (rs.zip ds)[i]? = some (rs[i], ds[i]) := by
        rw [List.getElem?_zip_eq_some]
        exact ⟨List.getElem?_eq_getElem hi, List.getElem?_eq_getElem (by omega)⟩
      exact List.mem_of_getElem? this
    exact s1 _ (pz.mem_iff.mpr hz)
theorem greedy_uniq {rs : List (Int × Int)} {ds ds' : List Int} : ∀ {os : List Nat} {left : Int → Int}, Greedy left (pairsF rs ds os) → Greedy left (pairsF rs ds' os) → ∀ k ∈ os, ds.getD k 0 = ds'.getD k 0
  | [], _, _, _, _, h => nomatch h
  | k :: os, left, h, h', i, hi => by
    obtain ⟨⟨p, a, b⟩, c, d⟩ := h
    obtain ⟨⟨p', a', b'⟩, c', d'⟩ := h'
    have e : ds.getD k 0 = ds'.getD k 0 := by
      have h1 := c p' a'
      have h2 := c' p a
      omega
    rw [← e] at d'
    rcases List.mem_cons.mp hi with z | z
    · rw [z]; exact e
    · exact greedy_uniq (os := os) d d' i z
theorem DuesOk.uniq {ps : List Int} {rs : List (Int × Int)} {ds ds' : List Int} (h : DuesOk ps rs ds) (h' : DuesOk ps rs ds') : ds = ds' := by
  obtain ⟨os, o1, o2, o3⟩ := h.grd
  obtain ⟨os', p1, p2, p3⟩ := h'.grd
  have eo : os = os' := by
    have e : os.map (fun i : Nat => V.int (i : Int)) = os'.map fun i : Nat => V.int (i : Int) := o1.symm.trans p1
    exact List.map_inj_right (fun a b z => by have := V.int.inj z; omega) |>.mp e
  subst eo
  have l1 := h.len
  have l2 := h'.len
  refine List.ext_getElem (l1.trans l2.symm) fun i h1 h2 => ?_
  have := greedy_uniq o3 p3 i (o2.mem_iff.mpr (List.mem_range.mpr (by omega)))
  rw [List.getD_eq_getElem?_getD, List.getD_eq_getElem?_getD, List.getElem?_eq_getElem h1, List.getElem?_eq_getElem h2] at this
  exact this
theorem pairs_set {rs : List (Int × Int)} {ds : List Int} {os : List Nat} {k : Nat} {m : Int} (h : k ∉ os) : pairsF rs (ds.set k m) os = pairsF rs ds os := by
  unfold pairsF
  refine List.map_congr_left fun i hi => ?_
  have hne : k ≠ i := fun z => h (by rw [z]; exact hi)
  rw [List.getD_eq_getElem?_getD (l := ds.set k m), List.getElem?_set_ne hne, ← List.getD_eq_getElem?_getD]
def spDues (K : PySem.W.Frag) (Pt : Addr) : Sp := fun vs H Q _ => ∃ (a b : Addr) (ps : List Int) (rs : List (Int × Int)), vs = [.ref a, .ref b] ∧ IntsQ H a ps ∧ LsQ H b rs ∧ (∀ x ∈ ps, 0 ≤ x) ∧ ps.length ≤ 900 ∧ rs.length ≤ 900 ∧ RunIn ps.length rs ∧ TabS H Pt qD ∧
  ∀ H2 T ds, TbL Pt qD H H2 → ButAt Pt H H2 → H T = none → IntsA H2 T ds → DuesOk ps rs ds → Q (.ref T) H2
abbrev sDues : Stmt := topS 3
theorem scDues : FnScope ["prices", "runs", "left", "dues", "at", "first", "last", "due", "place"] ["prices", "runs"] (defScope sDues) := ⟨rfl, rfl, rfl, by decide +kernel, rfl, by decide +kernel, by decide +kernel⟩
section
variable {K : PySem.W.Frag} {mg : Str → Option Value} {P : Program} {w : World} {base : Heap}
theorem ok_Dues {f : Addr} {c Pt : Addr} {oc kV doc pm ct : Value} {od an : Option Addr} {osl : Array (Option Value)}
    (lk : K.lookup f = some ⟨oc, od, .func (PySem.W.fnOf "most_dues" "most_dues" (defArgs sDues) (defBody sDues) (defScope sDues) .none kV doc pm an (.ref c) ct), osl⟩) (hcd : PySem.W.codeIn K (.ref c) "most_dues" = true)
    (TB : LamX.TabB base mg c Pt) (m_list : mg "list" = none) (m_len : mg "len" = none) (m_sorted : mg "sorted" = none) (m_range : mg "range" = none) (m_min : mg "min" = none) :
    FnOk P w K mg base CX0 4 f (PySem.W.fnOf "most_dues" "most_dues" (defArgs sDues) (defBody sDues) (defScope sDues) .none kV doc pm an (.ref c) ct) ["prices", "runs"] (spDues K Pt) := by
  refine fn_of lk hcd scDues (fun vs H Q E h => ?_) (fun A outer s H vs Q E hr h => ?_)
  · obtain ⟨a, b, ps, rs, rfl, _⟩ := h
    rfl
  · obtain ⟨a, b, ps, rs, rfl, hA, hB, hps, hpz, hrz, hr0, hT, q⟩ := h
    refine ⟨_, PSs.nox (pss_cons (ps_set (i := 2) scDues.nd rfl (.inl rfl) (pe_callTy call_list_of (by rfl) m_list (by decide +kernel) (pa_cons (pv 0) pa_nil)))
      (pss_cons (ps_set (i := 3) scDues.nd rfl (.inl rfl) (pe_op op_rep (pe_lst (pa_cons pe_int pa_nil)) (pe_callB call_len_seq (by rfl) m_len PySem.boot_len (pa_cons (pv 1) pa_nil))))
      (pss_cons (ps_for PassesOwn.never rfl (pi_list (pe_sortedL3 TB rfl (by rfl) m_sorted hr (pa_cons (pe_callTy cr_range1 (by rfl) m_range (by decide +kernel) (pa_cons (pe_callB call_len_seq (by rfl) m_len PySem.boot_len (pa_cons (pv 1) pa_nil)) pa_nil)) pa_nil) (by rfl) (lamP_by (sc := defScope sDues) (by decide +kernel)) (fun _ _ _ _ => rfl) (key_at1S (i := 1) (lamP_by (sc := defScope sDues) (by decide +kernel)) rfl rfl rfl (by decide) (by decide) (by decide)))) (pg_name (i := 4) scDues.nd rfl (.inl rfl))
        (pss_cons (ps_asg (pe_ix ix_seq (pv 1) (pv 4) (fun _ _ => rfl)) (pg_tup rfl (pgs_cons (pg_name (i := 5) scDues.nd rfl (.inl rfl)) (pgs_cons (pg_name (i := 6) scDues.nd rfl (.inl rfl)) pgs_nil))))
        (pss_cons (ps_set (i := 7) scDues.nd rfl (.inl rfl) (pe_callB (cr_min rfl) (by rfl) m_min (by decide +kernel) (pa_cons (pe_slice sl_list (pv 2) (po_some (pv 5)) (po_some (pe_op op_add (pv 6) pe_int))) pa_nil)))
        (pss_cons (ps_asg (pv 7) (pg_sub (pv 3) (pv 4) set_list))
        (pss_one (ps_for PassesOwn.never rfl (pi_range2 rfl m_range (pa_cons (pv 5) (pa_cons (pe_op op_add (pv 6) pe_int) pa_nil))) (pg_name (i := 8) scDues.nd rfl (.inl rfl))
          (pss_one (ps_augS (pv 2) (pv 8) get_list (pv 7) ip_sub set_list))))))))
      (pss_one (ps_ret (pv 3)))))), ?_⟩
    obtain ⟨ub, eb, pb⟩ := id hB
    have lub : ub.length = rs.length := pb.1
    refine ⟨_, rfl, a, _, rfl, hA.lq, fun L nL => ?_⟩
    have sL := same_upd (o := .lst (ps.map V.int)) nL
    refine ⟨Nat.le_of_ble_eq_true rfl, fun p0 np0 => ⟨_, rfl, b, _, rfl, ((eb.same sL).same (same_upd np0)).lq, p0, _, _, rfl, rfl, upd_same, by omega, by omega, ?_, fun D nD => ?_⟩⟩
    · show 1 * _ ≤ _
      have e := small1000 (n := (ub.length : Int).toNat) (by omega)
      omega
    have s0 := same_upd (o := .lst [.int 0]) np0
    have e0 : (List.replicate (ub.length : Int).toNat [V.int 0]).flatten = (List.replicate rs.length (0 : Int)).map V.int := by
      rw [List.map_replicate, Int.toNat_natCast, lub]
      generalize rs.length = n
      induction n with
      | zero => rfl
      | succ n ih => rw [List.replicate_succ, List.flatten_cons, ih, List.replicate_succ]; rfl
    rw [e0]
    have sD := same_upd (o := .lst ((List.replicate rs.length (0 : Int)).map V.int)) nD
    have s1 := (sL.trans s0).trans sD
    have eL1 := (s0.trans sD) _ _ (upd_same (H := H) (a := L) (o := .lst (ps.map V.int)))
    have eD1 : upd (upd (upd H L (.lst (ps.map V.int))) p0 (.lst [.int 0])) D (.lst ((List.replicate rs.length (0 : Int)).map V.int)) D = some (.lst ((List.replicate rs.length (0 : Int)).map V.int)) := upd_same
    have nLD : L ≠ D := ne_of_none (s0 _ _ (upd_same (H := H) (a := L) (o := .lst (ps.map V.int)))) nD
    have nD0 : H D = none := (sL.trans s0).free nD
    generalize upd (upd (upd H L (.lst (ps.map V.int))) p0 (.lst [.int 0])) D (.lst ((List.replicate rs.length (0 : Int)).map V.int)) = H1 at *
    refine ⟨_, rfl, b, ub, rfl, (eb.same s1).lq, (rs.length : Int), by rw [lub], fun R nR => ?_⟩
    have sR := same_upd (o := .rng 0 (rs.length : Int)) nR
    refine ⟨hT.ext (s1.trans sR), R, rs.length, fun x => PyData.int (kD rs x), rfl, upd_same, by omega, ?_, ?_, ?_, ?_, ?_⟩
    · intro d1 h1 d2 h2
      obtain ⟨x1, _, rfl⟩ := List.mem_map.mp h1
      obtain ⟨x2, _, rfl⟩ := List.mem_map.mp h2
      rfl
    · refine .inr fun d1 h1 => ?_
      obtain ⟨x1, _, rfl⟩ := List.mem_map.mp h1
      exact ⟨(fun z => nomatch z), fun _ z => nomatch z⟩
    · intro x _
      show PyData.depth (PyData.int _) ≤ 8
      rw [PyData.depth]
      omega
    · intro x hx H2 tb
      obtain ⟨i, hi, rfl⟩ := List.mem_map.mp hx
      have hi := List.mem_range.mp hi
      obtain ⟨ub', eb', pb'⟩ := ((hB.same s1).same sR).tbl tb
      have er : rs[i]? = some rs[i] := List.getElem?_eq_getElem hi
      obtain ⟨T, g1, g2⟩ := pb'.2 i _ er
      refine ⟨b, T, ub', _, (i : Int), rs[i].2, rfl, rfl, eb'.lq, atI_nat g1, .inl (.inl g2), atI_nat (j := 1) rfl, ?_⟩
      show PyData.int (rs.getD (i : Int).toNat (0, 0)).2 = _
      rw [Int.toNat_natCast, List.getD_eq_getElem?_getD, er]
      rfl
    · intro H2 p tb bt np
      obtain ⟨os, eo, hperm, hsort⟩ := order_ofD rs rs.length
      have ho : ∀ i ∈ os, i < rs.length := fun i hi => List.mem_range.mp (hperm.mem_iff.mp hi)
      have hnd : os.Nodup := hperm.nodup_iff.mpr List.nodup_range
      rw [eo]
      have sp := same_upd (o := .lst (os.map fun i : Nat => V.int (i : Int))) np
      have tb2 := tb.trans (TbL.of tb.1 sp)
      have eL2 := tb2.lst (sR _ _ eL1)
      have eD2 := tb2.lst (sR _ _ eD1)
      have hB2 := ((hB.same s1).same sR).tbl tb2
      have bt0 : ButAt Pt H (upd H2 p (.lst (os.map fun i : Nat => V.int (i : Int)))) := fun b' o nb e => sp _ _ (bt b' o nb (sR _ _ (s1 _ _ e)))
      have tb0 : TbL Pt qD H (upd H2 p (.lst (os.map fun i : Nat => V.int (i : Int)))) := (TbL.of hT (s1.trans sR)).trans tb2
      have epp : upd H2 p (.lst (os.map fun i : Nat => V.int (i : Int))) p = some (.lst (os.map fun i : Nat => V.int (i : Int))) := upd_same
      have npL : p ≠ L := fun z => by rw [z, tb.lst (sR _ _ eL1)] at np; cases np
      have npD : p ≠ D := fun z => by rw [z, tb.lst (sR _ _ eD1)] at np; cases np
      have nbL : b ≠ L := eb.ne_none nL
      have nbD : b ≠ D := eb.ne_none nD0
      generalize upd H2 p (.lst (os.map fun i : Nat => V.int (i : Int))) = H3 at *
      obtain ⟨ub3, eb3, pb3⟩ := hB2
      refine ⟨p, rfl, ⟨_, SqL.of epp⟩, for_list (xs := os.map fun i : Nat => V.int (i : Int)) (fun i σ Hx => ∃ (ls ds : List Int) (y4 y5 y6 y7 y8 : Option V), σ = [some (.ref a), some (.ref b), some (.ref L), some (.ref D), y4, y5, y6, y7, y8] ∧ IntsA Hx L ls ∧ ls.length = ps.length ∧ IntsA Hx D ds ∧ ds.length = rs.length ∧ (∀ p : Int, 0 ≤ p → p < ps.length → cF ls p = prF ps p - paidF (pairsF rs ds (os.take i)) p) ∧ Greedy (prF ps) (pairsF rs ds (os.take i)) ∧ TabS Hx Pt qD ∧ ∀ b' o, b' ≠ L → b' ≠ D → H3 b' = some o → Hx b' = some o) ⟨_, _, _, _, _, _, _, rfl, eL2, rfl, eD2, List.length_replicate .., fun p p0 p1 => (cF_all p0 p1).symm.trans (Int.sub_zero _).symm, trivial, tb2.1, fun _ _ _ _ e => e⟩ (fun i σ Hx _ hP => ?_) (fun i x σ Hx hx hP => ?_) (fun σ Hx hP => ?_)⟩
      · obtain ⟨ls, ds, y4, y5, y6, y7, y8, rfl, eL, ll, eD, ld, hcf, hgr, hTx, kp⟩ := hP
        exact SqL.of (kp _ _ npL npD epp)
      · obtain ⟨ls, ds, y4, y5, y6, y7, y8, rfl, eL, ll, eD, ld, hcf, hgr, hTx, kp⟩ := hP
        rw [List.getElem?_map] at hx
        obtain ⟨k, hk, rfl⟩ := Option.map_eq_some_iff.mp hx
        have lk' : k < rs.length := ho k (List.mem_of_getElem? hk)
        obtain ⟨T, g1, g2⟩ := pb3.2 k _ (List.getElem?_eq_getElem lk')
        obtain ⟨r0, r1, r2⟩ := hr0 rs[k] (List.getElem_mem lk')
        have ergd : rs.getD k (0, 0) = rs[k] := by rw [List.getD_eq_getElem?_getD, List.getElem?_eq_getElem lk']; rfl
        have etk : os.take (i + 1) = os.take i ++ [k] := by rw [List.take_add_one, hk]; rfl
        have knot : k ∉ os.take i := nodup_take hnd hk
        generalize rs[k] = r at g2 r0 r1 r2 ergd
        have eT := kp _ _ (ne_of g2 eL2 (fun z => nomatch z)) (ne_of g2 eD2 (fun z => nomatch z)) g2
        obtain ⟨f, hf⟩ := Int.eq_ofNat_of_zero_le r0
        obtain ⟨l, hl⟩ := Int.eq_ofNat_of_zero_le (Int.le_trans r0 r1)
        refine ⟨_, rfl, _, rfl, b, _, _, .ref T, rfl, rfl, eb3.elim (fun e => .inl (SqL.of (kp _ _ nbL nbD e))) (fun e => .inr (.inl (.inl (kp _ _ nbL nbD e)))), atI_nat g1, ?_⟩
        refine ⟨T, _, rfl, .inl (.inl eT), rfl, _, _, rfl, _, _, rfl, rfl, ?_⟩
        have ecut : cutV (ls.map V.int) (some r.1) (some (r.2 + 1)) = ((ls.drop f).take (l + 1 - f)).map V.int := by
          unfold cutV
          rw [hf, show r.2 + 1 = ((l + 1 : Nat) : Int) by omega, HT.sIx_nat, HT.sIx_nat, List.length_map, Nat.min_eq_left (by omega), Nat.min_eq_left (by omega), List.map_take, List.map_drop]
        refine ⟨_, rfl, _, rfl, r.1, rfl, _, rfl, r.2, 1, rfl, rfl, r.2 + 1, rfl, L, _, rfl, SqL.of eL, fun c' nc => ?_⟩
        rw [ecut]
        have sc := same_upd (o := .lst (((ls.drop f).take (l + 1 - f)).map V.int)) nc
        refine ⟨c', _, rfl, SqL.of upd_same, by rw [List.length_take, List.length_drop]; omega, fun m hm1 hm2 => ?_⟩
        have hmin1 : ∃ p, inR r p ∧ cF ls p = m := by
          obtain ⟨j, hj, e⟩ := List.getElem_of_mem hm1
          rw [List.length_take, List.length_drop] at hj
          rw [List.getElem_take, List.getElem_drop] at e
          refine ⟨((f + j : Nat) : Int), ⟨by omega, by omega⟩, ?_⟩
          rw [cF_at (List.getElem?_eq_getElem (by omega))]
          exact e
        have hmin2 : ∀ p, inR r p → m ≤ cF ls p := fun p hp => by
          obtain ⟨n, rfl⟩ := Int.eq_ofNat_of_zero_le (Int.le_trans r0 hp.1)
          have hp1 := hp.1
          have hp2 := hp.2
          have ln : n < ls.length := by omega
          rw [cF_at (List.getElem?_eq_getElem ln)]
          refine hm2 _ (List.mem_iff_getElem.mpr ⟨n - f, by rw [List.length_take, List.length_drop]; omega, ?_⟩)
          rw [List.getElem_take, List.getElem_drop]
          congr 1
          omega
        have eD4 := sc _ _ eD
        refine ⟨_, rfl, _, rfl, _, rfl, D, _, _, k, rfl, rfl, eD4, by rw [List.length_map]; exact ixN_of (by omega), ?_⟩
        have nLD' := nLD
        refine ⟨_, rfl, _, rfl, _, 1, rfl, rfl, r.1, r.2 + 1, rfl, ⟨by omega, by omega, by omega, by omega⟩, for_range (lo := r.1) (n := (r.2 + 1 - r.1).toNat) (fun j σ Hy => ∃ (ls2 : List Int) (y8 : Option V), σ = [some (.ref a), some (.ref b), some (.ref L), some (.ref D), some (.int (k : Int)), some (.int r.1), some (.int r.2), some (.int m), y8] ∧ IntsA Hy L ls2 ∧ ls2.length = ps.length ∧ IntsA Hy D (ds.set k m) ∧ (∀ p : Int, 0 ≤ p → p < ps.length → cF ls2 p = cF ls p - if r.1 ≤ p ∧ p < r.1 + (j : Int) then m else 0) ∧ TabS Hy Pt qD ∧ ∀ b' o, b' ≠ L → b' ≠ D → H3 b' = some o → Hy b' = some o)
          ⟨ls, _, rfl, ?_, ll, ?_, fun p _ _ => by rw [if_neg (by omega)]; omega, TabS.upd (hTx.ext sc) eD4, fun b' o n1 n2 e => ?_⟩ (fun j σ Hy hj hP => ?_) (fun σ Hy hP => ?_)⟩
        · show upd _ _ _ _ = _
          rw [upd_ne nLD']
          exact sc _ _ eL
        · show upd _ _ _ _ = _
          rw [upd_same, List.map_set]
        · rw [upd_ne n2]
          exact sc _ _ (kp b' o n1 n2 e)
        · obtain ⟨ls2, y8, rfl, eL, ll2, eD, hc2, hTx, kp⟩ := hP
          have lp : f + j < ls2.length := by omega
          obtain ⟨v, ev⟩ : ∃ v, ls2[f + j]? = some v := ⟨_, List.getElem?_eq_getElem lp⟩
          have ei : r.1 + (j : Int) = ((f + j : Nat) : Int) := by omega
          refine ⟨_, rfl, _, rfl, L, _, _, .int v, rfl, rfl, SqL.of eL, by rw [ei]; exact IntsA.at ev, _, rfl, _, _, rfl, rfl, L, _, _, f + j, rfl, rfl, eL, by rw [ei, List.length_map]; exact ixN_of lp, ?_⟩
          refine ⟨ls2.set (f + j) (v - m), _, rfl, ?_, by rw [List.length_set]; exact ll2, ?_, fun p p0 p1 => ?_, TabS.upd hTx eL, fun b' o n1 n2 e => ?_⟩
          · show upd _ _ _ _ = _
            rw [upd_same, List.map_set]
          · show upd _ _ _ _ = _
            rw [upd_ne (Ne.symm nLD')]
            exact eD
          · rw [cF_set lp p0]
            have h2 := hc2 p p0 p1
            by_cases c : p = ((f + j : Nat) : Int)
            · rw [if_pos c, if_pos (by omega)]
              rw [if_neg (by omega), c, cF_at ev] at h2
              rw [c]
              omega
            · rw [if_neg c, h2]
              by_cases c2 : r.1 ≤ p ∧ p < r.1 + (j : Int)
              · rw [if_pos c2, if_pos (by omega)]
              · rw [if_neg c2, if_neg (by omega)]
          · rw [upd_ne n1]
            exact kp b' o n1 n2 e
        · obtain ⟨ls2, y8, rfl, eL, ll2, eD, hc2, hTx, kp⟩ := hP
          have epairs : pairsF rs (ds.set k m) (os.take (i + 1)) = pairsF rs ds (os.take i) ++ [(r, m)] := by
            rw [etk]
            show List.map _ (os.take i ++ [k]) = _
            rw [List.map_append]
            have := pairs_set (rs := rs) (ds := ds) (m := m) knot
            unfold pairsF at this
            rw [this]
            show _ ++ [(rs.getD k (0, 0), (ds.set k m).getD k 0)] = _
            rw [ergd, List.getD_eq_getElem?_getD, List.getElem?_set_self (by omega)]
            rfl
          have hB : ∀ p, inR r p → 0 ≤ p ∧ p < ps.length := fun p hp => ⟨Int.le_trans r0 hp.1, Int.lt_of_le_of_lt hp.2 r2⟩
          refine ⟨ls2, _, _, _, _, _, _, rfl, eL, ll2, eD, by rw [List.length_set]; exact ld, fun p p0 p1 => ?_, ?_, hTx, kp⟩
          · rw [epairs, paid_snoc, hc2 p p0 p1, hcf p p0 p1]
            by_cases c : inR r p
            · rw [if_pos c, if_pos (by have := c.1; have := c.2; omega)]; omega
            · rw [if_neg c, if_neg (fun z => c ⟨z.1, by omega⟩)]; omega
          · rw [epairs]
            refine hgr.snoc ?_ fun p hp => ?_
            · obtain ⟨p, hp, e⟩ := hmin1
              exact ⟨p, hp, by rw [← hcf p (hB p hp).1 (hB p hp).2]; exact e⟩
            · rw [← hcf p (hB p hp).1 (hB p hp).2]
              exact hmin2 p hp
      · obtain ⟨ls, ds, y4, y5, y6, y7, y8, rfl, eL, ll, eD, ld, hcf, hgr, hTx, kp⟩ := hP
        have lo : (os.map fun i : Nat => V.int (i : Int)).length = os.length := List.length_map ..
        rw [lo, List.take_length] at hgr
        refine ⟨_, rfl, q Hx D ds ⟨hTx, fun b' o e nt => kp b' o (ne_of_none e nL) (ne_of_none e nD0) (tb0.2 b' o e nt)⟩ (fun b' o nb e => kp b' o (ne_of_none e nL) (ne_of_none e nD0) (bt0 b' o nb e)) nD0 eD (dues_ok hps hr0 ld hperm hsort eo hgr)⟩
end

/-! ### the told cost: as much as the dues -/
theorem fall_inc : ∀ {l : List Int} {s : Int}, Fall s l → l.Pairwise (· > ·)
  | [], _, _ => .nil
  | x :: l, s, h => List.pairwise_cons.mpr ⟨fun y hy => by have := Fall.lt h.2.2 y hy; omega, fall_inc h.2.2⟩
theorem inc_fall : ∀ {l : List Int} {s : Int}, l.Pairwise (· > ·) → (∀ x ∈ l, 0 ≤ x ∧ x + 1 < s) → Fall s l
  | [], _, _, _ => trivial
  | x :: l, s, h, b => by
    obtain ⟨h1, h2⟩ := List.pairwise_cons.mp h
    obtain ⟨b1, b2⟩ := b x (List.mem_cons_self ..)
    exact ⟨b2, b1, inc_fall h2 fun y hy => ⟨(b y (List.mem_cons_of_mem _ hy)).1, by have := h1 y hy; omega⟩⟩
theorem Way.nn {rs : List (Int × Int)} : ∀ {l : List Int} {s : Int}, Way rs s l → ∀ x ∈ l, 0 ≤ x
  | [], _, _, x, hx => nomatch hx
  | y :: l, s, h, x, hx => by
    rcases List.mem_cons.mp hx with z | z
    · rw [z]; exact h.2.1
    · exact Way.nn h.2.2.2 x z
theorem prF_at {ps : List Int} {x : Int} (h0 : 0 ≤ x) (h1 : x < ps.length) : atI (ps.map V.int) x = some (.int (prF ps x)) := by
  obtain ⟨k, rfl⟩ := Int.eq_ofNat_of_zero_le h0
  have lk : k < ps.length := by omega
  have e : prF ps (k : Int) = ps[k] := cF_at (by rw [List.getElem?_append_left lk]; exact List.getElem?_eq_getElem lk)
  rw [e]
  exact IntsA.at (List.getElem?_eq_getElem lk)
/-- what is told of a case -/
structure ToldOk (ps : List Int) (rs : List (Int × Int)) (co : Int) (pl ds : List Int) : Prop where
  inc : pl.Pairwise (· < ·)
  rng : ∀ p ∈ pl, 0 ≤ p ∧ p < ps.length
  hit : ∀ r ∈ rs, ∃ p ∈ pl, inR r p
  cost : costF (prF ps) pl = co
  sum : ds.sum = co
  dues : DuesOk ps rs ds
  path : PathOf rs (prF ps) ((ps.length : Int) + 1) pl.reverse
theorem costF_mono {f g : Int → Int} : ∀ {l : List Int}, (∀ p ∈ l, f p ≤ g p) → costF f l ≤ costF g l
  | [], _ => Int.le_refl _
  | x :: l, h => by
    have h1 := h x (List.mem_cons_self ..)
    have h2 := costF_mono fun p hp => h p (List.mem_cons_of_mem _ hp)
    rw [costF_cons', costF_cons']
    omega
theorem costF_add {f g : Int → Int} : ∀ {l : List Int}, costF (fun p => f p + g p) l = costF f l + costF g l
  | [] => rfl
  | x :: l => by
    rw [costF_cons', costF_cons', costF_cons', costF_add]
    omega
theorem costF_nn {f : Int → Int} : ∀ {l : List Int}, (∀ p ∈ l, 0 ≤ f p) → 0 ≤ costF f l
  | [], _ => Int.le_refl _
  | x :: l, h => by
    have h1 := h x (List.mem_cons_self ..)
    have h2 := costF_nn fun p hp => h p (List.mem_cons_of_mem _ hp)
    rw [costF_cons']
    omega
theorem costF_one {f : Int → Int} {q : Int} : ∀ {l : List Int}, (∀ p ∈ l, 0 ≤ f p) → q ∈ l → f q ≤ costF f l
  | [], _, h => nomatch h
  | x :: l, h0, h => by
    have h1 := h0 x (List.mem_cons_self ..)
    have h2 := costF_nn fun p hp => h0 p (List.mem_cons_of_mem _ hp)
    rw [costF_cons']
    rcases List.mem_cons.mp h with z | z
    · rw [z]; omega
    · have := costF_one (fun p hp => h0 p (List.mem_cons_of_mem _ hp)) z
      omega
/-- no hitting places cost less than the dues -/
theorem weak {pl : List Int} : ∀ {l : List ((Int × Int) × Int)}, (∀ x ∈ l, 0 ≤ x.2) → (∀ x ∈ l, ∃ p ∈ pl, inR x.1 p) → duesF l ≤ costF (paidF l) pl
  | [], _, _ => costF_nn fun _ _ => Int.le_refl _
  | (r, d) :: l, h0, hh => by
    have ih := weak (fun x hx => h0 x (List.mem_cons_of_mem _ hx)) (fun x hx => hh x (List.mem_cons_of_mem _ hx))
    have e : paidF ((r, d) :: l) = fun p => (if inR r p then d else 0) + paidF l p := rfl
    have ed : duesF ((r, d) :: l) = d + duesF l := rfl
    have d0 : 0 ≤ d := h0 _ (List.mem_cons_self ..)
    rw [e, costF_add, ed]
    obtain ⟨p, hp, hr⟩ := hh _ (List.mem_cons_self ..)
    have := costF_one (f := fun p => if inR r p then d else 0) (fun p _ => by split <;> omega) hp
    rw [if_pos hr] at this
    omega
theorem costF_sub {f : Int → Int} : ∀ {l S : List Int}, l.Nodup → (∀ p ∈ l, p ∈ S) → (∀ p ∈ S, 0 ≤ f p) → costF f l ≤ costF f S
  | [], S, _, _, h0 => costF_nn h0
  | x :: l, S, nd, hs, h0 => by
    obtain ⟨n1, n2⟩ := List.nodup_cons.mp nd
    have hx := hs x (List.mem_cons_self ..)
    have ih := costF_sub (S := S.erase x) n2 (fun p hp => (List.mem_erase_of_ne (fun z => n1 (by rw [← z]; exact hp))).mpr (hs p (List.mem_cons_of_mem _ hp))) (fun p hp => h0 p (List.mem_of_mem_erase hp))
    have e : costF f S = costF f (x :: S.erase x) := perm_sum ((List.perm_cons_erase hx).map f)
    rw [e, costF_cons', costF_cons']
    omega
theorem told_ok {ps : List Int} {rs : List (Int × Int)} {ds pre : List Int} (hps : ∀ x ∈ ps, 0 ≤ x) (hr : RunIn ps.length rs) (hW : Way rs ((ps.length : Int) + 1) pre) (hM : ∀ l', Way rs ((ps.length : Int) + 1) l' → costF (prF ps) pre ≤ costF (prF ps) l') (hP : PathOf rs (prF ps) ((ps.length : Int) + 1) pre) (hD : DuesOk ps rs ds) : ToldOk ps rs (costF (prF ps) pre) pre.reverse ds := by
  have hf := hW.fall
  have hin := fall_inc hf
  have hrng : ∀ p ∈ pre, 0 ≤ p ∧ p < ps.length := fun p hp => ⟨hW.nn p hp, by have := Fall.lt hf p hp; omega⟩
  have hhit : ∀ r ∈ rs, ∃ p ∈ pre, inR r p := fun r h => by
    obtain ⟨x, hx, e⟩ := hW.hit (fun r h => (hr r h).1) r h (by have := (hr r h).2.2; omega)
    exact ⟨x, hx, e⟩
  have hmem : ∀ p, p ∈ pre.reverse ↔ p ∈ pre := fun p => List.mem_reverse
  refine ⟨by rw [List.pairwise_reverse]; exact hin, fun p hp => hrng p ((hmem p).mp hp), fun r h => let ⟨p, a, b⟩ := hhit r h; ⟨p, (hmem p).mpr a, b⟩, costF_rev _ _, ?_, hD, by rw [List.reverse_reverse]; exact hP⟩
  have es : duesF (rs.zip ds) = ds.sum := by
    unfold duesF
    rw [List.map_snd_zip (by have := hD.len; omega)]
  have low : ds.sum ≤ costF (prF ps) pre := by
    rw [← es]
    refine Int.le_trans (weak (pl := pre) (fun x hx => ?_) fun x hx => ?_) (costF_mono fun p hp => hD.paid p (hrng p hp).1 (hrng p hp).2)
    · exact hD.nn _ (List.of_mem_zip (a := x.1) (b := x.2) hx).2
    · exact hhit _ (List.of_mem_zip (a := x.1) (b := x.2) hx).1
  obtain ⟨S, s1, s2, s3⟩ := hD.dual
  -- the places of S, falling
  have hN : ((List.range ps.length).map fun i : Nat => (i : Int)).Pairwise (· < ·) := by
    rw [List.pairwise_map]
    exact List.Pairwise.imp (fun h => Int.ofNat_lt.mpr h) List.pairwise_lt_range
  have hl : ∀ p, p ∈ (((List.range ps.length).map fun i : Nat => (i : Int)).filter fun p => decide (p ∈ S)).reverse ↔ p ∈ S := fun p => by
    rw [List.mem_reverse, List.mem_filter, decide_eq_true_iff]
    refine ⟨fun z => z.2, fun z => ⟨?_, z⟩⟩
    have := s2 p z
    exact List.mem_map.mpr ⟨p.toNat, List.mem_range.mpr (by omega), by omega⟩
  have hp2 : (((List.range ps.length).map fun i : Nat => (i : Int)).filter fun p => decide (p ∈ S)).reverse.Pairwise (· > ·) := by
    rw [List.pairwise_reverse]
    exact hN.filter _
  generalize (((List.range ps.length).map fun i : Nat => (i : Int)).filter fun p => decide (p ∈ S)).reverse = l' at hl hp2
  have hW' : Way rs ((ps.length : Int) + 1) l' := Way.of (fun r h => (hr r h).1) (inc_fall hp2 fun x hx => by have := s2 x ((hl x).mp hx); omega) fun r h _ => by
    obtain ⟨p, a, b⟩ := s1 r h
    exact ⟨p, (hl p).mpr a, b⟩
  have h1 := hM l' hW'
  have h2 : costF (prF ps) l' ≤ costF (prF ps) S := costF_sub (hp2.imp fun h => Int.ne_of_gt h) (fun p hp => (hl p).mp hp) fun p _ => prF_nn hps p
  omega
theorem ToldOk.uniq {ps : List Int} {rs : List (Int × Int)} {co co' : Int} {pl pl' ds ds' : List Int} (h : ToldOk ps rs co pl ds) (h' : ToldOk ps rs co' pl' ds') : co = co' ∧ pl = pl' ∧ ds = ds' := by
  have e : pl.reverse = pl'.reverse := h.path.uniq (by omega) h'.path (fun x hx => (h.rng x (List.mem_reverse.mp hx)).1) (fun x hx => (h'.rng x (List.mem_reverse.mp hx)).1)
  have e1 : pl = pl' := List.reverse_inj.mp e
  exact ⟨by rw [← h.cost, ← h'.cost, e1], e1, h.dues.uniq h'.dues⟩

/-! ### least costs put otherwise -/
/-- places that meet each run -/
def HitS (n : Nat) (rs : List (Int × Int)) (S : List Int) : Prop := (∀ r ∈ rs, ∃ p ∈ S, inR r p) ∧ ∀ p ∈ S, 0 ≤ p ∧ p < n
structure LeastC (ps : List Int) (rs : List (Int × Int)) (co : Int) : Prop where
  ex : ∃ S, S.Nodup ∧ HitS ps.length rs S ∧ costF (prF ps) S = co
  low : ∀ S, HitS ps.length rs S → co ≤ costF (prF ps) S
theorem ToldOk.least {ps : List Int} {rs : List (Int × Int)} {co : Int} {pl ds : List Int} (h : ToldOk ps rs co pl ds) : LeastC ps rs co := by
  refine ⟨⟨pl, h.inc.imp fun h => Int.ne_of_lt h, ⟨h.hit, h.rng⟩, h.cost⟩, fun S hS => ?_⟩
  have es : duesF (rs.zip ds) = ds.sum := by
    unfold duesF
    rw [List.map_snd_zip (by have := h.dues.len; omega)]
  rw [← h.sum, ← es]
  refine Int.le_trans (weak (pl := S) (fun x hx => ?_) fun x hx => ?_) (costF_mono fun p hp => h.dues.paid p (hS.2 p hp).1 (hS.2 p hp).2)
  · exact h.dues.nn _ (List.of_mem_zip (a := x.1) (b := x.2) hx).2
  · exact hS.1 _ (List.of_mem_zip (a := x.1) (b := x.2) hx).1
theorem LeastC.uniq {ps : List Int} {rs : List (Int × Int)} {co co' : Int} (h : LeastC ps rs co) (h' : LeastC ps rs co') : co = co' := by
  obtain ⟨S, _, hS, e⟩ := h.ex
  obtain ⟨S', _, hS', e'⟩ := h'.ex
  have := h.low S' hS'
  have := h'.low S hS
  omega
/-- runs that ask for the same -/
theorem LeastC.runs {ps : List Int} {rs rs' : List (Int × Int)} {co : Int} (h : LeastC ps rs co) (e : ∀ S, HitS ps.length rs S ↔ HitS ps.length rs' S) : LeastC ps rs' co :=
  ⟨let ⟨S, a, b, c⟩ := h.ex; ⟨S, a, (e S).mp b, c⟩, fun S hS => h.low S ((e S).mpr hS)⟩
theorem hit_mem {n : Nat} {rs rs' : List (Int × Int)} (e : ∀ r, r ∈ rs ↔ r ∈ rs') (S : List Int) : HitS n rs S ↔ HitS n rs' S :=
  ⟨fun h => ⟨fun r hr => h.1 r ((e r).mpr hr), h.2⟩, fun h => ⟨fun r hr => h.1 r ((e r).mp hr), h.2⟩⟩
/-- one more run that holds another one -/
theorem hit_wider {n : Nat} {rs : List (Int × Int)} {r r' : Int × Int} (hr : r ∈ rs) (h1 : r'.1 ≤ r.1) (h2 : r.2 ≤ r'.2) (S : List Int) : HitS n rs S ↔ HitS n (rs ++ [r']) S := by
  refine ⟨fun h => ⟨fun x hx => ?_, h.2⟩, fun h => ⟨fun x hx => h.1 x (List.mem_append_left _ hx), h.2⟩⟩
  rcases List.mem_append.mp hx with z | z
  · exact h.1 x z
  · obtain ⟨p, hp, a, b⟩ := h.1 r hr
    rw [List.mem_singleton.mp z]
    exact ⟨p, hp, by omega, by omega⟩
theorem prF_get {ps : List Int} {k : Nat} (h : k < ps.length) : prF ps (k : Int) = ps[k] := cF_at (by rw [List.getElem?_append_left h]; exact List.getElem?_eq_getElem h)
/-- places told by another way of counting them -/
theorem costF_map {f g : Int → Int} {t : Int → Int} : ∀ {l : List Int}, (∀ p ∈ l, g (t p) = f p) → costF g (l.map t) = costF f l
  | [], _ => rfl
  | x :: l, h => by
    rw [List.map_cons, costF_cons', costF_cons', h x (List.mem_cons_self ..), costF_map fun p hp => h p (List.mem_cons_of_mem _ hp)]
/-- turned about -/
def turnR (n : Nat) (r : Int × Int) : Int × Int := ((n : Int) - 1 - r.2, (n : Int) - 1 - r.1)
theorem prF_turn {ps : List Int} {p : Int} (h0 : 0 ≤ p) (h1 : p < ps.length) : prF ps.reverse ((ps.length : Int) - 1 - p) = prF ps p := by
  obtain ⟨k, rfl⟩ := Int.eq_ofNat_of_zero_le h0
  have lk : k < ps.length := by omega
  have e : (ps.length : Int) - 1 - (k : Int) = ((ps.length - 1 - k : Nat) : Int) := by omega
  rw [e, prF_get (by rw [List.length_reverse]; omega), prF_get lk, List.getElem_reverse]
  congr 1
  omega
theorem hit_turn {n : Nat} {rs : List (Int × Int)} {S : List Int} (h : HitS n rs S) : HitS n (rs.map (turnR n)) (S.map fun p => (n : Int) - 1 - p) := by
  refine ⟨fun r hr => ?_, fun p hp => ?_⟩
  · obtain ⟨r0, h0, rfl⟩ := List.mem_map.mp hr
    obtain ⟨p, hp, a, b⟩ := h.1 r0 h0
    exact ⟨_, List.mem_map_of_mem hp, by show (n : Int) - 1 - r0.2 ≤ (n : Int) - 1 - p; omega, by show (n : Int) - 1 - p ≤ (n : Int) - 1 - r0.1; omega⟩
  · obtain ⟨q, hq, rfl⟩ := List.mem_map.mp hp
    have := h.2 q hq
    omega
theorem turn_turn {n : Nat} (rs : List (Int × Int)) : (rs.map (turnR n)).map (turnR n) = rs := by
  rw [List.map_map]
  conv => rhs; rw [← List.map_id rs]
  refine List.map_congr_left fun r _ => ?_
  show ((n : Int) - 1 - ((n : Int) - 1 - r.1), (n : Int) - 1 - ((n : Int) - 1 - r.2)) = r
  rw [show (n : Int) - 1 - ((n : Int) - 1 - r.1) = r.1 by omega, show (n : Int) - 1 - ((n : Int) - 1 - r.2) = r.2 by omega]
theorem LeastC.turn {ps : List Int} {rs : List (Int × Int)} {co : Int} (h : LeastC ps rs co) : LeastC ps.reverse (rs.map (turnR ps.length)) co := by
  refine ⟨?_, fun S hS => ?_⟩
  · obtain ⟨S, a, b, c⟩ := h.ex
    refine ⟨S.map fun p => (ps.length : Int) - 1 - p, ?_, by rw [List.length_reverse]; exact hit_turn b, by rw [costF_map (f := prF ps) fun p hp => prF_turn (b.2 p hp).1 (b.2 p hp).2]; exact c⟩
    exact List.Pairwise.map _ (fun x y hxy z => hxy (by omega)) a
  · rw [List.length_reverse] at hS
    have hb := hit_turn hS
    rw [turn_turn] at hb
    have e : costF (prF ps) (S.map fun p => (ps.length : Int) - 1 - p) = costF (prF ps.reverse) S := costF_map fun p hp => by
      have hr := hS.2 p hp
      have := prF_turn (ps := ps.reverse) (p := p) hr.1 (by rw [List.length_reverse]; exact hr.2)
      rw [List.reverse_reverse, List.length_reverse] at this
      exact this
    rw [← e]
    exact h.low _ hb
/-- places put in ahead of all -/
def moveR (a : Int) (r : Int × Int) : Int × Int := (r.1 + a, r.2 + a)
theorem LeastC.ahead {ps more : List Int} {rs : List (Int × Int)} {co : Int} (h : LeastC ps rs co) (hm : ∀ x ∈ more ++ ps, 0 ≤ x) (hr : RunIn ps.length rs) : LeastC (more ++ ps) (rs.map (moveR more.length)) co := by
  have ep : ∀ p : Int, 0 ≤ p → p < ps.length → prF (more ++ ps) (p + more.length) = prF ps p := fun p h0 h1 => by
    obtain ⟨k, rfl⟩ := Int.eq_ofNat_of_zero_le h0
    have lk : k < ps.length := by omega
    rw [show (k : Int) + (more.length : Int) = ((more.length + k : Nat) : Int) by omega, prF_get (by rw [List.length_append]; omega), prF_get lk, List.getElem_append_right (by omega)]
    congr 1
    omega
  refine ⟨?_, fun S hS => ?_⟩
  · obtain ⟨S, a, b, c⟩ := h.ex
    refine ⟨S.map fun p => p + more.length, List.Pairwise.map _ (fun x y hxy z => hxy (by omega)) a, ⟨fun r hr => ?_, fun p hp => ?_⟩, by rw [costF_map (f := prF ps) fun p hp => ep p (b.2 p hp).1 (b.2 p hp).2]; exact c⟩
    · obtain ⟨r0, h0, rfl⟩ := List.mem_map.mp hr
      obtain ⟨p, hp, x, y⟩ := b.1 r0 h0
      exact ⟨_, List.mem_map_of_mem hp, by show r0.1 + _ ≤ p + _; omega, by show p + _ ≤ r0.2 + _; omega⟩
    · obtain ⟨q, hq, rfl⟩ := List.mem_map.mp hp
      have := b.2 q hq
      rw [List.length_append]
      omega
  · rw [List.length_append] at hS
    have e : costF (prF ps) ((S.filter fun p => decide ((more.length : Int) ≤ p)).map fun p => p - more.length) = costF (prF (more ++ ps)) (S.filter fun p => decide ((more.length : Int) ≤ p)) := costF_map fun p hp => by
      obtain ⟨h1, h2⟩ := List.mem_filter.mp hp
      have h2 := of_decide_eq_true h2
      have h3 := hS.2 p h1
      have := ep (p - more.length) (by omega) (by omega)
      rw [show p - (more.length : Int) + (more.length : Int) = p by omega] at this
      exact this.symm
    have tl : ∀ {l : List Int}, costF (prF (more ++ ps)) (l.filter fun p => decide ((more.length : Int) ≤ p)) ≤ costF (prF (more ++ ps)) l := by
      intro l
      induction l with
      | nil => exact Int.le_refl _
      | cons y l ih =>
        have hy := prF_nn hm y
        rw [List.filter_cons]
        split
        · rw [costF_cons', costF_cons']; omega
        · rw [costF_cons']; omega
    refine Int.le_trans (h.low _ ⟨fun r hr' => ?_, fun p hp => ?_⟩) (by rw [e]; exact tl)
    · obtain ⟨p, hp, x, y⟩ := hS.1 (moveR more.length r) (List.mem_map_of_mem hr')
      have x : r.1 + more.length ≤ p := x
      have y : p ≤ r.2 + more.length := y
      have := hr r hr'
      exact ⟨p - more.length, List.mem_map.mpr ⟨p, List.mem_filter.mpr ⟨hp, decide_eq_true (by omega)⟩, rfl⟩, by omega, by omega⟩
    · obtain ⟨q, hq, rfl⟩ := List.mem_map.mp hp
      obtain ⟨h1, h2⟩ := List.mem_filter.mp hq
      have h2 := of_decide_eq_true h2
      have h3 := hS.2 q h1
      omega
/-- one run more -/
theorem LeastC.more {ps : List Int} {rs : List (Int × Int)} {co co' : Int} {r : Int × Int} {m : Int} (h : LeastC ps rs co) (h' : LeastC ps (rs ++ [r]) co') (hm : ∃ p, inR r p ∧ 0 ≤ p ∧ p < ps.length ∧ prF ps p = m) : co ≤ co' ∧ co' ≤ co + m := by
  obtain ⟨S, _, hS, e⟩ := h.ex
  obtain ⟨S', _, hS', e'⟩ := h'.ex
  obtain ⟨p, pr, p0, p1, pm⟩ := hm
  refine ⟨?_, ?_⟩
  · rw [← e']
    exact h.low S' ⟨fun x hx => hS'.1 x (List.mem_append_left _ hx), hS'.2⟩
  · have := h'.low (p :: S) ⟨fun x hx => ?_, fun q hq => ?_⟩
    · rw [costF_cons', e, pm] at this
      omega
    · rcases List.mem_append.mp hx with z | z
      · obtain ⟨q, hq, hx⟩ := hS.1 x z
        exact ⟨q, List.mem_cons_of_mem _ hq, hx⟩
      · rw [List.mem_singleton.mp z]
        exact ⟨p, List.mem_cons_self .., pr⟩
    · rcases List.mem_cons.mp hq with z | z
      · rw [z]; exact ⟨p0, p1⟩
      · exact hS.2 q z
/-- so many times as great -/
theorem LeastC.times {ps : List Int} {rs : List (Int × Int)} {co k : Int} (h : LeastC ps rs co) (hk : 0 ≤ k) : LeastC (ps.map (· * k)) rs (co * k) := by
  have ep : ∀ p : Int, 0 ≤ p → p < ps.length → prF (ps.map (· * k)) p = prF ps p * k := fun p h0 h1 => by
    obtain ⟨j, rfl⟩ := Int.eq_ofNat_of_zero_le h0
    have lj : j < ps.length := by omega
    rw [prF_get (by rw [List.length_map]; exact lj), prF_get lj, List.getElem_map]
  have ec : ∀ {S : List Int}, (∀ p ∈ S, 0 ≤ p ∧ p < ps.length) → costF (prF (ps.map (· * k))) S = costF (prF ps) S * k := by
    intro S
    induction S with
    | nil => intro _; show (0 : Int) = 0 * k; omega
    | cons x S ih =>
      intro hS
      have hx := hS x (List.mem_cons_self ..)
      rw [costF_cons', costF_cons', ih fun p hp => hS p (List.mem_cons_of_mem _ hp), ep x hx.1 hx.2, Int.add_mul]
  refine ⟨?_, fun S hS => ?_⟩
  · obtain ⟨S, a, b, c⟩ := h.ex
    exact ⟨S, a, by rw [List.length_map]; exact b, by rw [ec b.2, c]⟩
  · rw [List.length_map] at hS
    rw [ec hS.2]
    exact Int.mul_le_mul_of_nonneg_right (h.low S hS) hk
/-- one price changed -/
theorem LeastC.price {ps qs : List Int} {rs : List (Int × Int)} {co co' a b : Int} (hl : qs.length = ps.length) {at_ : Int} (h : LeastC ps rs co) (h' : LeastC qs rs co') (e : ∀ p : Int, 0 ≤ p → p < ps.length → p ≠ at_ → prF qs p = prF ps p) (ha : prF ps at_ - a ≤ prF qs at_) (hb : prF qs at_ ≤ prF ps at_ + b) (a0 : 0 ≤ a) (b0 : 0 ≤ b) : co - a ≤ co' ∧ co' ≤ co + b := by
  have key : ∀ {f g : Int → Int} {d : Int} {S : List Int}, S.Nodup → (∀ p ∈ S, 0 ≤ p ∧ p < ps.length) → 0 ≤ d → (∀ p : Int, 0 ≤ p → p < ps.length → p ≠ at_ → g p = f p) → g at_ ≤ f at_ + d → costF g S ≤ costF f S + d := by
    intro f g d S
    induction S with
    | nil => intro _ _ d0 _ _; show (0 : Int) ≤ 0 + d; omega
    | cons x S ih =>
      intro nd hS d0 he hg
      obtain ⟨n1, n2⟩ := List.nodup_cons.mp nd
      rw [costF_cons', costF_cons']
      by_cases c : x = at_
      · have es : costF g S = costF f S := by
          have : ∀ {l : List Int}, (∀ p ∈ l, g p = f p) → costF g l = costF f l := fun h => by unfold costF; rw [List.map_congr_left h]
          refine this fun p hp => ?_
          have hp' := hS p (List.mem_cons_of_mem _ hp)
          exact he p hp'.1 hp'.2 fun z => n1 (by rw [c, ← z]; exact hp)
        rw [es, c]
        omega
      · have hx := hS x (List.mem_cons_self ..)
        have := ih n2 (fun p hp => hS p (List.mem_cons_of_mem _ hp)) d0 he hg
        rw [he x hx.1 hx.2 c]
        omega
  obtain ⟨S, nd, hS, es⟩ := h.ex
  obtain ⟨S', nd', hS', es'⟩ := h'.ex
  rw [hl] at hS'
  refine ⟨?_, ?_⟩
  · have h1 := h.low S' hS'
    have h2 := key (f := prF qs) (g := prF ps) (d := a) nd' hS'.2 a0 (fun p p0 p1 pn => (e p p0 p1 pn).symm) (by omega)
    omega
  · have h1 := h'.low S (by rw [hl]; exact hS)
    have h2 := key (f := prF ps) (g := prF qs) (d := b) nd hS.2 b0 e hb
    omega

/-! ## generator expressions: a frame of their own, its rules those of any body -/
namespace GX
open PySem PySem.Spec PyProof.Rows L2 GenW
/-- the object at c is a code object with its table at P -/
def CodeG (c P : Addr) : HO := .ext fun h => PySem.W.CodeHd h c P
theorem codeG_ne {c P : Addr} (ps : Array Value) : CodeG c P ≠ .tbl ps := fun z => by
  unfold CodeG at z
  cases z
/-- all but tables stands, tables stay tables -/
structure NoTab (H H2 : Hp) : Prop where
  keep : ∀ b o, H b = some o → (∀ ps, o ≠ .tbl ps) → H2 b = some o
  tab : ∀ b ps, H b = some (.tbl ps) → ∃ qs, H2 b = some (.tbl qs)
theorem NoTab.refl (H : Hp) : NoTab H H := ⟨fun _ _ e _ => e, fun _ ps e => ⟨ps, e⟩⟩
theorem NoTab.trans {H H1 H2 : Hp} (a : NoTab H H1) (b : NoTab H1 H2) : NoTab H H2 := ⟨fun x o e n => b.keep x o (a.keep x o e n) n, fun x ps e => let ⟨qs, e1⟩ := a.tab x ps e; b.tab x qs e1⟩
theorem NoTab.of {H H1 : Hp} (k : ∀ b o, H b = some o → H1 b = some o) : NoTab H H1 := ⟨fun b o e _ => k b o e, fun b ps e => ⟨ps, k _ _ e⟩⟩
theorem NoTab.free {H H1 : Hp} {p : Addr} (n : NoTab H H1) (h : H1 p = none) : H p = none := by
  cases e : H p with
  | none => rfl
  | some o =>
    by_cases ct : ∃ q, o = .tbl q
    · obtain ⟨q, rfl⟩ := ct
      obtain ⟨qs, e1⟩ := n.tab p q e
      rw [h] at e1
      cases e1
    · have e1 := n.keep p o e fun ps z => ct ⟨ps, z⟩
      rw [h] at e1
      cases e1
theorem NoTab.lst {H H1 : Hp} {a : Addr} {xs : List V} (n : NoTab H H1) (e : H a = some (.lst xs)) : H1 a = some (.lst xs) := n.keep _ _ e fun _ z => nomatch z
theorem NoTab.tup {H H1 : Hp} {a : Addr} {xs : List V} (n : NoTab H H1) (e : H a = some (.tup xs)) : H1 a = some (.tup xs) := n.keep _ _ e fun _ z => nomatch z
theorem NoTab.code {H H1 : Hp} {a c P : Addr} (n : NoTab H H1) (e : H a = some (CodeG c P)) : H1 a = some (CodeG c P) := n.keep _ _ e codeG_ne
theorem NoTab.sqL {K : PySem.W.Frag} {H H1 : Hp} {a : Addr} {xs : List V} (n : NoTab H H1) (h : SqL K H a xs) : SqL K H1 a xs :=
  h.elim (fun z => z.elim (fun e => .inl (.inl (n.lst e))) fun ⟨o, e⟩ => .inl (.inr ⟨o, n.keep _ _ e fun _ z => nomatch z⟩)) .inr
theorem NoTab.sqT {K : PySem.W.Frag} {H H1 : Hp} {a : Addr} {xs : List V} (n : NoTab H H1) (h : SqT K H a xs) : SqT K H1 a xs :=
  h.elim (fun z => z.elim (fun e => .inl (.inl (n.tup e))) fun ⟨o, e⟩ => .inl (.inr ⟨o, n.keep _ _ e fun _ z => nomatch z⟩)) .inr
/-- a list that was new may change -/
theorem NoTab.new {H H1 : Hp} {a : Addr} {o : HO} (n : NoTab H H1) (e : H a = none) : NoTab H (L2.upd H1 a o) :=
  ⟨fun b u hb nt => by rw [upd_ne (ne_of_none hb e)]; exact n.keep b u hb nt, fun b ps hb => let ⟨qs, e1⟩ := n.tab b ps hb; ⟨qs, by rw [upd_ne (ne_of_none hb e)]; exact e1⟩⟩
/-- the table at P: each code object that it tells is known, and its own table, which is none of Xs -/
def TabQ (Xs : List Addr) (H : Hp) (P : Addr) : Prop := ∃ ps : Array Value, H P = some (.tbl ps) ∧ TriplesOk ps.toList ∧ ∀ (pos : Pos) (cv : Value), codeAmong pos ps.toList = some cv → ∃ c' P', cv = .ref c' ∧ H c' = some (CodeG c' P') ∧ P' ∉ Xs ∧ GxR.TabG H P'
theorem TabQ.nil {Xs : List Addr} {H : Hp} {P : Addr} (h : H P = some (.tbl #[])) : TabQ Xs H P := ⟨#[], h, True.intro, fun pos cv hc => by
  have z : codeAmong pos [] = some cv := hc
  simp [codeAmong] at z⟩
/-- the tables of the defs that hold generator expressions, those of lambdas with their names -/
structure Mq where
  ms : List Addr
  ls : List (Addr × Str)
instance : Membership Addr Mq := ⟨fun M a => a ∈ M.ms⟩
theorem Mq.mem {M : Mq} {a : Addr} : a ∈ M ↔ a ∈ M.ms := Iff.rfl
/-- the tables at Ms, of the defs that hold generator expressions or lambdas; Xs: all tables of defs -/
structure TQ (Ms : Mq) (Xs : List Addr) (H : Hp) : Prop where
  all : ∀ x ∈ Xs, ∃ ps, H x = some (.tbl ps)
  gx : ∀ m ∈ Ms, TabQ Xs H m ∧ m ∈ Xs
  lam : ∀ l ∈ Ms.ls, l.1 ∈ Xs ∧ l.1 ∉ Ms.ms ∧ LamX.TabS H l.1 l.2
theorem tabS_keep {H H2 : Hp} {P : Addr} {q : Str} (t : LamX.TabS H P q) (k : ∀ ps, H P = some (.tbl ps) → H2 P = some (.tbl ps)) (ko : ∀ b c q, H b = some (LamX.CodeO c q) → H2 b = some (LamX.CodeO c q)) : LamX.TabS H2 P q := by
  obtain ⟨ps, a, b, c⟩ := t
  refine ⟨ps, k _ a, b, fun pos cv hc => ?_⟩
  obtain ⟨c', e1, e2⟩ := c pos cv hc
  exact ⟨c', e1, ko _ _ _ e2⟩
theorem codeO_ne {c : Addr} {q : Str} (ps : Array Value) : LamX.CodeO c q ≠ .tbl ps := fun z => by
  unfold LamX.CodeO at z
  cases z
theorem tabG_same {H H2 : Hp} {P : Addr} (h : GxR.TabG H P) (k : ∀ b o, H b = some o → H2 b = some o) : GxR.TabG H2 P := let ⟨ps, a, b⟩ := h; ⟨ps, k _ _ a, b⟩
theorem TQ.same {Ms : Mq} {Xs : List Addr} {H H2 : Hp} (h : TQ Ms Xs H) (k : ∀ b o, H b = some o → H2 b = some o) : TQ Ms Xs H2 := by
  refine ⟨fun x hx => let ⟨ps, e⟩ := h.all x hx; ⟨ps, k _ _ e⟩, fun m hm => ?_, fun l hl => let ⟨a, b, c⟩ := h.lam l hl; ⟨a, b, c.ext k⟩⟩
  obtain ⟨⟨ps, a, b, c⟩, hx⟩ := h.gx m hm
  refine ⟨⟨ps, k _ _ a, b, fun pos cv hc => ?_⟩, hx⟩
  obtain ⟨c', P', e1, e2, e3, e4⟩ := c pos cv hc
  exact ⟨c', P', e1, k _ _ e2, e3, tabG_same e4 k⟩
/-- all that is no table may change, where no code object does -/
theorem TQ.keep {Ms : Mq} {Xs : List Addr} {H H2 : Hp} (h : TQ Ms Xs H) (k : ∀ b ps, H b = some (.tbl ps) → H2 b = some (.tbl ps)) (kc : ∀ b c P, H b = some (CodeG c P) → H2 b = some (CodeG c P)) (ko : ∀ b c q, H b = some (LamX.CodeO c q) → H2 b = some (LamX.CodeO c q)) : TQ Ms Xs H2 := by
  refine ⟨fun x hx => let ⟨ps, e⟩ := h.all x hx; ⟨ps, k _ _ e⟩, fun m hm => ?_, fun l hl => let ⟨a, b, c⟩ := h.lam l hl; ⟨a, b, tabS_keep c (k _) ko⟩⟩
  obtain ⟨⟨ps, a, b, c⟩, hx⟩ := h.gx m hm
  refine ⟨⟨ps, k _ _ a, b, fun pos cv hc => ?_⟩, hx⟩
  obtain ⟨c', P', e1, e2, e3, q, f1, f2⟩ := c pos cv hc
  exact ⟨c', P', e1, kc _ _ _ e2, e3, q, k _ _ f1, f2⟩
theorem TQ.upd {Ms : Mq} {Xs : List Addr} {H : Hp} {l : Addr} {xs : List V} {o : HO} (h : TQ Ms Xs H) (e : H l = some (.lst xs)) : TQ Ms Xs (L2.upd H l o) :=
  h.keep (fun b ps hb => by rw [upd_ne (ne_of hb e (fun z => nomatch z))]; exact hb) (fun b c P hb => by rw [upd_ne (ne_of hb e (fun z => by unfold CodeG at z; cases z))]; exact hb) (fun b c q hb => by rw [upd_ne (ne_of hb e (fun z => by unfold LamX.CodeO at z; cases z))]; exact hb)
/-- all but the object at P stands -/
def But (P : Addr) (H H2 : Hp) : Prop := ∀ b o, b ≠ P → H b = some o → H2 b = some o
theorem But.noTab {P : Addr} {H H2 : Hp} (h : But P H H2) {q q2 : Array Value} (e : H P = some (.tbl q)) (e2 : H2 P = some (.tbl q2)) : NoTab H H2 :=
  ⟨fun b o hb n => h b o (fun z => n q (by rw [z, e] at hb; exact (Option.some.inj hb).symm)) hb, fun b ps hb => by
    by_cases z : b = P
    · exact ⟨q2, by rw [z]; exact e2⟩
    · exact ⟨ps, h b _ z hb⟩⟩
/-- a table that is none of a def's has grown -/
theorem TQ.but {Ms : Mq} {Xs : List Addr} {H H2 : Hp} {P : Addr} (h : TQ Ms Xs H) (n : P ∉ Xs) (t : GxR.TabG H P) (t2 : GxR.TabG H2 P) (k : But P H H2) : TQ Ms Xs H2 := by
  obtain ⟨q0, hq0, _⟩ := t
  refine ⟨fun x hx => let ⟨ps, e⟩ := h.all x hx; ⟨ps, k _ _ (fun z => n (z ▸ hx)) e⟩, fun m hm => ?_, fun l hl => let ⟨a, b, c⟩ := h.lam l hl; ⟨a, b, tabS_keep c (fun _ => k _ _ (fun z => n (z ▸ a))) fun b c q e => k _ _ (ne_of e hq0 (codeO_ne q0)) e⟩⟩
  obtain ⟨⟨ps, a, b, c⟩, hx⟩ := h.gx m hm
  refine ⟨⟨ps, k _ _ (fun z => n (z ▸ hx)) a, b, fun pos cv hc => ?_⟩, hx⟩
  obtain ⟨c', P', e1, e2, e3, e4⟩ := c pos cv hc
  refine ⟨c', P', e1, k _ _ (ne_of e2 hq0 (codeG_ne q0)) e2, e3, ?_⟩
  by_cases e : P' = P
  · rw [e]; exact t2
  · obtain ⟨q, h1, h2⟩ := e4
    exact ⟨q, k _ _ e h1, h2⟩
/-- a lambda's own table has grown -/
theorem TQ.lamS {Ms : Mq} {Xs : List Addr} {H H2 : Hp} {P : Addr} {q : Str} (h : TQ Ms Xs H) (hl : (P, q) ∈ Ms.ls) (hu : ∀ l ∈ Ms.ls, l.1 = P → l.2 = q) (t2 : LamX.TabS H2 P q) (k : But P H H2) : TQ Ms Xs H2 := by
  obtain ⟨hX, hM, q0, hq0, _⟩ := h.lam _ hl
  obtain ⟨q2, hq2, _⟩ := id t2
  refine ⟨fun x hx => ?_, fun m hm => ?_, fun l hl' => ?_⟩
  · by_cases e : x = P
    · exact ⟨q2, by rw [e]; exact hq2⟩
    · obtain ⟨ps, e0⟩ := h.all x hx
      exact ⟨ps, k _ _ e e0⟩
  · obtain ⟨⟨ps, a, b, c⟩, hx⟩ := h.gx m hm
    refine ⟨⟨ps, k _ _ (fun z => hM (z ▸ hm)) a, b, fun pos cv hc => ?_⟩, hx⟩
    obtain ⟨c', P', e1, e2, e3, q, h1, h2⟩ := c pos cv hc
    exact ⟨c', P', e1, k _ _ (ne_of e2 hq0 (codeG_ne q0)) e2, e3, q, k _ _ (fun z => e3 (z ▸ hX)) h1, h2⟩
  · obtain ⟨a, b, c⟩ := h.lam l hl'
    refine ⟨a, b, ?_⟩
    by_cases e : l.1 = P
    · rw [e, hu l hl' e]
      exact t2
    · exact tabS_keep c (fun _ => k _ _ e) fun b c q e => k _ _ (ne_of e hq0 (codeO_ne q0)) e
section
variable {X : Cx} {pins : List (Addr × Obj)} {σ : L2.St} {H : Hp} {s : Shared}
theorem codeHd_stay {c P : Addr} {h1 h2 : Heap} (x : PySem.W.CodeHd h1 c P) (k : ∀ o, h1.get? c = some o → h2.get? c = some o) : PySem.W.CodeHd h2 c P :=
  let ⟨o, vs, file, tf, flags, tg, inF, text, tt, e, r⟩ := x; ⟨o, vs, file, tf, flags, tg, inF, text, tt, k _ e, r⟩
/-- the table's object is written, the code object at c and its table at P2 are new -/
theorem inv_code {P c P2 : Addr} {ps more : Array Value} {h' : Heap} {t' : Nat} (I : Inv X pins σ H s) (hP : H P = some (.tbl ps)) (k : ∀ b o, b ≠ P → s.heap.get? b = some o → h'.get? b = some o)
    (hm : h'.get? P = some { cls := .none, data := .fields (ps ++ more) }) (hc : s.heap.objs.size ≤ c) (hp2 : s.heap.objs.size ≤ P2) (ncp : c ≠ P2) (ho : PySem.W.CodeHd h' c P2) (hq : h'.get? P2 = some { cls := .none, data := .fields #[] }) :
    Inv X pins σ (upd (upd (upd H P (.tbl (ps ++ more))) c (CodeG c P2)) P2 (.tbl #[])) { s with heap := h', toks := t' } := by
  have nC : H c = none := I.hok.fresh hc
  have nQ : H P2 = none := I.hok.fresh hp2
  have nPc : P ≠ c := ne_of_none hP nC
  have nPq : P ≠ P2 := ne_of_none hP nQ
  have at_ : ∀ b, b ≠ P → b ≠ c → b ≠ P2 → upd (upd (upd H P (.tbl (ps ++ more))) c (CodeG c P2)) P2 (.tbl #[]) b = H b := fun b h1 h2 h3 => by rw [upd_ne h3, upd_ne h2, upd_ne h1]
  have atP : upd (upd (upd H P (.tbl (ps ++ more))) c (CodeG c P2)) P2 (.tbl #[]) P = some (.tbl (ps ++ more)) := by rw [upd_ne nPq, upd_ne nPc, upd_same]
  have nP : ∀ b u, H b = some u → (∀ q, u ≠ .tbl q) → b ≠ P := fun b u e q z => by
    rw [z, hP] at e
    exact q ps (Option.some.inj e).symm
  have nN : ∀ b, H b = none → b ≠ P := fun b e z => by
    rw [z, hP] at e
    cases e
  have lt' : ∀ b o, s.heap.get? b = some o → b ≠ c ∧ b ≠ P2 := fun b o e => ⟨fun z => by
    rw [z] at e
    exact Nat.lt_irrefl _ (Nat.lt_of_lt_of_le (Heap.lt_size e) hc), fun z => by
    rw [z] at e
    exact Nat.lt_irrefl _ (Nat.lt_of_lt_of_le (Heap.lt_size e) hp2)⟩
  have sm : ∀ b u, H b = some u → b ≠ c ∧ b ≠ P2 := fun b u e => ⟨ne_of_none e nC, ne_of_none e nQ⟩
  refine I.step (g' := s.gens) (d' := s.drawn) (ch := []) (fun b hb => absurd hb (by simp)) (fun b o _ _ _ e n => k b o (nN b n) e) (fun b o _ _ _ e n => ⟨o.slots, k b o (nN b n) e⟩)
    (fun b o _ e n => by rw [at_ b (nN b n) (lt' b o e).1 (lt' b o e).2]; exact n) (fun b o _ e => ?_) (fun b xs e => by rw [at_ b (nP b _ e (fun q z => by cases z)) (sm b _ e).1 (sm b _ e).2]; exact e) (fun b o u e => by rw [at_ b (nP b _ e (fun q z => by cases z)) (sm b _ e).1 (sm b _ e).2]; exact e) (fun b qs e => ?_) (fun m hn => ?_) (fun b u e => ?_) I.bare
  · by_cases hb : b = P
    · rw [hb]
      exact ⟨_, hm⟩
    · exact ⟨o, k b o hb e⟩
  · by_cases hb : b = P
    · rw [hb, hP] at e
      cases e
      rw [hb, atP]
      exact ⟨more, rfl⟩
    · rw [at_ b hb (sm b _ e).1 (sm b _ e).2, e]
      exact ⟨#[], by simp⟩
  · obtain ⟨ob, es, ep, ho, r⟩ := hn
    exact ⟨ob, es, ep, k _ ob (nN _ I.free) ho, r⟩
  · by_cases hb2 : b = P2
    · rw [hb2, upd_same] at e
      cases e
      rw [hb2]
      exact hq
    · by_cases hb : b = c
      · rw [hb, upd_ne ncp, upd_same] at e
        cases e
        rw [hb]
        refine ⟨ho, ?_, fun h1 h2 a st => codeHd_stay a st⟩
        obtain ⟨o, _, _, _, _, _, _, _, _, e, _⟩ := ho
        exact ⟨o, e⟩
      · by_cases hbP : b = P
        · rw [hbP, atP] at e
          cases e
          rw [hbP]
          exact hm
        · rw [at_ b hbP hb hb2] at e
          refine (I.hok b u e).stay (fun d v hd q => k d v ?_ q) (fun d q => by rw [at_ d (nP d _ q (fun q z => by cases z)) (sm d _ q).1 (sm d _ q).2]; exact q) fun d xs q => by rw [at_ d (nP d _ q (fun q z => by cases z)) (sm d _ q).1 (sm d _ q).2]; exact q
          rcases hd with z | z
          · rw [z]
            exact hbP
          · exact nP d _ z (fun q z => by cases z)
end
/-- the making of a generator expression's code object, as it is read -/
abbrev TC := L2.St → Hp → (Value → Hp → Prop) → Prop
structure PC (X : Cx) (gpos : Pos) (scope : Scope) (tc : TC) : Prop where
  run : ∀ (pins : List (Addr × Obj)) (s : Shared) (σ : L2.St) (H : Hp) (Q : Value → Hp → Prop) (E : Value → Shared → Prop), Inv X pins σ H s → tc σ H Q →
    wpAny (model X.prog X.w) X.A (genexprCode X.env gpos (X.env.qual ++ "<genexpr>") scope) (fun code s' => ∃ H', Inv X pins σ H' s' ∧ s.heap.objs.size ≤ s'.heap.objs.size ∧ Q code H') E s
/-- of a def's own code object -/
def tCo (Ms : Mq) (Xs : List Addr) (P : Addr) : TC := fun _ H Q => TQ Ms Xs H ∧ P ∈ Ms ∧ ∀ (H2 : Hp) (c' P' : Addr), NoTab H H2 → TQ Ms Xs H2 → P' ∉ Xs → H2 c' = some (CodeG c' P') → GxR.TabG H2 P' → Q (.ref c') H2
theorem pc_own {X : Cx} {Ms : Mq} {Xs : List Addr} {c P : Addr} {gpos : Pos} {scope : Scope} (TB : GxR.TabB X.base X.mg c P) (hcode : X.env.code = .ref c) : PC X gpos scope (tCo Ms Xs P) := by
  refine ⟨fun pins s σ H Q E I h => ?_⟩
  obtain ⟨tq, hPm, q⟩ := h
  obtain ⟨⟨ps, hP, ok, kn⟩, hPx⟩ := tq.gx P hPm
  have hP' : s.heap.get? P = some { cls := .none, data := .fields ps } := I.hok P _ hP
  have C := TB.code.keeps I.bk
  cases found : codeAmong gpos ps.toList with
  | some old =>
    obtain ⟨c', P', rfl, e2, e3, e4⟩ := kn gpos _ found
    exact wpAny_genexprCode_hit hcode (C.code hP' ok) found ⟨H, I, Nat.le_refl _, q H c' P' (NoTab.refl _) tq e3 e2 e4⟩
  | none =>
    refine wpAny_genexprCodeX hcode (C.code hP' ok) (C.tab hP') found fun c' h' tk ext le lt isC _ tab ⟨P', le2, isC2, tab2⟩ => ?_
    obtain ⟨_, _, _, _, _, _, _, _, _, _, _, _, _, _, _, _, _, _, _, okT, _⟩ := isC
    have hd2 := PySem.W.CodeHd.of isC2 tab2
    have ncp : c' ≠ P' := by
      obtain ⟨_, _, _, _, _, _, _, _, _, _, _, _, _, _, _, _, _, _, hne⟩ := hd2
      exact hne
    have J := inv_code (t' := tk) I hP (fun b o hb e => ext b o hb e) tab.2 le le2 ncp hd2 tab2.2
    have nC : H c' = none := I.hok.fresh le
    have nQ : H P' = none := I.hok.fresh le2
    have nPc : P ≠ c' := ne_of_none hP nC
    have nPq : P ≠ P' := ne_of_none hP nQ
    have nX : P' ∉ Xs := fun z => by
      obtain ⟨ps0, e⟩ := tq.all P' z
      rw [nQ] at e
      cases e
    have eL : (ps ++ #[rawInt gpos.line, rawInt gpos.col, .ref c']).toList = ps.toList ++ [rawInt gpos.line, rawInt gpos.col, .ref c'] := by simp
    have kp : But P H (upd (upd (upd H P (.tbl (ps ++ #[rawInt gpos.line, rawInt gpos.col, .ref c']))) c' (CodeG c' P')) P' (.tbl #[])) := fun b o hb e => by
      rw [upd_ne (ne_of_none e nQ), upd_ne (ne_of_none e nC), upd_ne hb]
      exact e
    have eC : upd (upd (upd H P (.tbl (ps ++ #[rawInt gpos.line, rawInt gpos.col, .ref c']))) c' (CodeG c' P')) P' (.tbl #[]) c' = some (CodeG c' P') := by rw [upd_ne ncp, upd_same]
    have tG : GxR.TabG (upd (upd (upd H P (.tbl (ps ++ #[rawInt gpos.line, rawInt gpos.col, .ref c']))) c' (CodeG c' P')) P' (.tbl #[])) P' := ⟨#[], upd_same, True.intro⟩
    have eP : upd (upd (upd H P (.tbl (ps ++ #[rawInt gpos.line, rawInt gpos.col, .ref c']))) c' (CodeG c' P')) P' (.tbl #[]) P = some (.tbl (ps ++ #[rawInt gpos.line, rawInt gpos.col, .ref c'])) := by rw [upd_ne nPq, upd_ne nPc, upd_same]
    have sub : ∀ c0 P0, H c0 = some (CodeG c0 P0) → P0 ∉ Xs → GxR.TabG H P0 → GxR.TabG (upd (upd (upd H P (.tbl (ps ++ #[rawInt gpos.line, rawInt gpos.col, .ref c']))) c' (CodeG c' P')) P' (.tbl #[])) P0 := fun c0 P0 _ e3 ⟨q0, f1, f2⟩ => ⟨q0, kp _ _ (fun z => e3 (z ▸ hPx)) f1, f2⟩
    refine ⟨_, J, Nat.le_trans le (Nat.le_of_lt lt), q _ c' P' (kp.noTab hP eP) ⟨fun x hx => ?_, fun m hm => ?_, fun l hl => let ⟨a, b, c⟩ := tq.lam l hl; ⟨a, b, tabS_keep c (fun _ => kp _ _ (fun z => b (by rw [z]; exact hPm))) fun b c q e => kp _ _ (ne_of e hP (codeO_ne ps)) e⟩⟩ nX eC tG⟩
    · by_cases e : x = P
      · exact ⟨_, by rw [e]; exact eP⟩
      · obtain ⟨ps0, e0⟩ := tq.all x hx
        exact ⟨ps0, kp _ _ e e0⟩
    · by_cases e : m = P
      · subst e
        refine ⟨⟨_, eP, okT, fun pos cv hcv => ?_⟩, hPx⟩
        rw [eL] at hcv
        rcases LamX.among_app _ ok hcv with z | z
        · obtain ⟨c0, P0, e1, e2, e3, e4⟩ := kn pos cv z
          exact ⟨c0, P0, e1, kp _ _ (ne_of e2 hP (codeG_ne ps)) e2, e3, sub c0 P0 e2 e3 e4⟩
        · exact ⟨c', P', z, eC, nX, tG⟩
      · obtain ⟨⟨ps0, a, b, c⟩, hx⟩ := tq.gx m hm
        refine ⟨⟨ps0, kp _ _ e a, b, fun pos cv hc => ?_⟩, hx⟩
        obtain ⟨c0, P0, e1, e2, e3, e4⟩ := c pos cv hc
        exact ⟨c0, P0, e1, kp _ _ (ne_of e2 hP (codeG_ne ps)) e2, e3, sub c0 P0 e2 e3 e4⟩
/-- of the code object of the generator expression around -/
def tCj (Ms : Mq) (Xs : List Addr) (code : Value) : TC := fun _ H Q => ∃ c P, code = .ref c ∧ H c = some (CodeG c P) ∧ P ∉ Xs ∧ GxR.TabG H P ∧ TQ Ms Xs H ∧ ∀ (H2 : Hp) (code' : Value), NoTab H H2 → TQ Ms Xs H2 → GxR.TabG H2 P → Q code' H2
theorem pc_in {X : Cx} {Ms : Mq} {Xs : List Addr} {code : Value} {gpos : Pos} {scope : Scope} (hcode : X.env.code = code) : PC X gpos scope (tCj Ms Xs code) := by
  refine ⟨fun pins s σ H Q E I h => ?_⟩
  obtain ⟨c, P, ec, hC, nX, ⟨ps, hP, ok⟩, tq, q⟩ := h
  rw [ec] at hcode
  have hP' : s.heap.get? P = some { cls := .none, data := .fields ps } := I.hok P _ hP
  have C : PySem.W.CodeHd s.heap c P := (I.hok c _ hC).1
  cases found : codeAmong gpos ps.toList with
  | some old => exact wpAny_genexprCode_hit hcode (C.code hP' ok) found ⟨H, I, Nat.le_refl _, q H _ (NoTab.refl _) tq ⟨ps, hP, ok⟩⟩
  | none =>
    refine wpAny_genexprCodeX hcode (C.code hP' ok) (C.tab hP') found fun c' h' tk ext le lt isC _ tab _ => ?_
    obtain ⟨_, _, _, _, _, _, _, _, _, _, _, _, _, _, _, _, _, _, _, okT, _⟩ := isC
    have J := GxR.inv_tab (more := #[rawInt gpos.line, rawInt gpos.col, .ref c']) (g' := s.gens) (d' := s.drawn) (t' := tk) I hP (fun b o hb e => ext b o hb e) tab.2 I.bare
    have kp : But P H (upd H P (.tbl (ps ++ #[rawInt gpos.line, rawInt gpos.col, .ref c']))) := fun b o hb e => by rw [upd_ne hb]; exact e
    have t2 : GxR.TabG (upd H P (.tbl (ps ++ #[rawInt gpos.line, rawInt gpos.col, .ref c']))) P := ⟨_, upd_same, okT⟩
    exact ⟨_, J, Nat.le_trans le (Nat.le_of_lt lt), q _ _ (kp.noTab hP upd_same) (tq.but nX ⟨ps, hP, ok⟩ t2 kp) t2⟩
end GX

namespace GX
open PySem PySem.Spec PyProof.Rows L2 GenW
/-- the context of a generator expression's frame, which runs in the around B -/
abbrev gcx (X : Cx) (B : Around) (s : Shared) (H : Hp) (scope : Scope) (genv : Env) (fp : List Addr) : Cx :=
  { X with A := B, s_0 := s, H_0 := H, env := genv, outer := X.stack, stack := genv :: X.stack, ex := fp, fn := fun x => scope.names.lookup x == some .cell, calm := true, pn := [], xe := fun _ _ => False }
/-- the names of a generator expression: its own (with their places in N), or captured -/
structure GOk (N : List Str) (sc scope : Scope) (own : List (Str × Nat)) : Prop where
  blk : BlkOk N sc scope own
  dot : scope.names.lookup (".0" : Str) = some .local
  co : scope.isCoroutine = false
def gokB (N : List Str) (sc scope : Scope) (own : List (Str × Nat)) : Bool := blkC N sc scope own && decide (scope.names.lookup (".0" : Str) = some .local) && !scope.isCoroutine
theorem gok_by {N : List Str} {sc scope : Scope} {own : List (Str × Nat)} (h : gokB N sc scope own = true) : GOk N sc scope own := by
  unfold gokB at h
  simp only [Bool.and_eq_true, Bool.not_eq_true', decide_eq_true_eq] at h
  exact ⟨blkOk_by h.1.1, h.1.2, h.2⟩
abbrev frameH (h : Heap) (names : List (Str × NameKind)) : Heap := pushCells (h.push { cls := .type "frame", data := .dict #[] }) names
theorem newGenEnv {M : Model} {A : Around} {E : Value → Shared → Prop} {s : Shared} {scope : Scope} {globals : Addr} {cl : List (Str × Addr)} {qual : Str} {code it : Value} {bi : Addr} {Q : Env → Shared → Prop} (hk : scope.kind = .function) (h0 : scope.names.lookup (".0" : Str) = some .local)
    (h : ∀ h', h'.Ns s.heap.objs.size (fun y => if y = (".0" : Str) then some it else none) → Heap.SameBut s.heap.objs.size (frameH s.heap scope.names) h' →
      Q { scope, locals := s.heap.objs.size, globals, cells := cellsFrom (s.heap.objs.size + 1) scope.names cl, qual, func := none, code, frame := some s.heap.objs.size, builtins := bi } { s with heap := h', toks := s.toks + 1 }) :
    wpAny M A (newFunctionEnv scope globals cl [(".0", it)] qual none code none bi) Q E s := by
  simp only [newFunctionEnv, Option.isSome_none, Bool.false_eq_true, if_false]
  refine wpAny_bind (wpAny_alloc ?_)
  refine wpAny_bind (wpAny_layCells _ (fun name kind cells => by cases hkc : kind == NameKind.cell <;> simp [hkc]) _ _ _ _ ?_)
  rw [show ({ s with heap := s.heap.push { cls := .type "frame", data := .dict #[] } } : Shared).heap.objs.size = s.heap.objs.size + 1 from Heap.size_push ..]
  rw [List.forIn_cons]
  refine wpAny_bind (wpAny_bind (wpAny_bind (wpAny_storeName_local (m := fun _ => none) h0 ((Heap.Ns.new s.heap (.type "frame")).keeps (pushCells_keeps _ _)) (fun h' hn' hs' => ?_) (by
    show (scope.kind == .class || (scope.kind == .module && _)) = false
    rw [hk]; rfl))))
  refine wpAny_pure ?_
  dsimp only
  rw [List.forIn_nil]
  exact wpAny_pure (wpAny_pure (h h' hn' hs'))
abbrev gEnv (X : Cx) (scope : Scope) (s : Shared) (code : Value) : Env := genEnv scope (cellsFrom (s.heap.objs.size + 1) scope.names (cloFrom X.env.cells scope.names [])) s.heap.objs.size code builtinsNs X.env
section
variable {X : Cx} {pins : List (Addr × Obj)} {σ : L2.St} {H : Hp} {s : Shared}
/-- what the around of the frame is to be -/
structure BOk (X : Cx) (B : Around) (genv : Env) : Prop where
  hd : B.handled = none
  fr : B.frames = some (genv :: X.stack)
theorem gx_start {B : Around} {scope : Scope} {own : List (Str × Nat)} {fp : List Addr} {code it : Value} {h' : Heap} {t' : Nat} (I : Inv X pins σ H s) (ok : GOk X.N X.env.scope scope own) (hN : X.N.Nodup) (hfp : ∀ b ∈ fp, FpOk X pins H b ∧ b < s.heap.objs.size)
    (hB : BOk X B (gEnv X scope s code)) (hn' : h'.Ns s.heap.objs.size (fun y => if y = (".0" : Str) then some it else none)) (hs' : Heap.SameBut s.heap.objs.size (frameH s.heap scope.names) h') :
    Inv (gcx X B s H scope (gEnv X scope s code) fp) [] (wipe σ (own.map (·.2))) H { s with heap := h', toks := t' } := by
  obtain ⟨ok, hdot, hco⟩ := ok
  have hfree : ∀ y ∈ scope.names, y.2 = .free → ∃ c, X.env.cells.lookup y.1 = some c := fun y hy e => by
    rcases ok.free y hy e with k | k
    · exact I.ok.has _ (.inl k)
    · exact I.ok.has _ (.inr k)
  generalize hcenv : gEnv X scope s code = cenv at hB ⊢
  have kp0 : ∀ b o, s.heap.get? b = some o → (frameH s.heap scope.names).get? b = some o := fun b o e => pushCells_keeps _ _ _ _ (Heap.get?_push_of_some _ e)
  have kp : ∀ b o, s.heap.get? b = some o → h'.get? b = some o := fun b o e => hs'.extBut b o (Nat.ne_of_lt (Heap.lt_size e)) (kp0 b o e)
  have hL : cenv.locals = s.heap.objs.size := by rw [← hcenv]; rfl
  have hcl : cenv.cells = cellsFrom (s.heap.objs.size + 1) scope.names (cloFrom X.env.cells scope.names []) := by rw [← hcenv]; rfl
  have hsc : cenv.scope = scope := by rw [← hcenv]; rfl
  rw [← Heap.size_push s.heap { cls := .type "frame", data := .dict #[] }] at hcl
  have cm : ∀ {y c}, (y, c) ∈ cloFrom X.env.cells scope.names [] → X.env.cells.lookup y = some c ∧ c < s.heap.objs.size := fun {y c} hm => by
    rcases cloFrom_mem hm with hm | ⟨h1, rfl⟩
    · cases hm
    · obtain ⟨c, hc⟩ := hfree _ h1 rfl
      rw [hc]
      obtain ⟨w, z⟩ := I.cell _ _ hc
      exact ⟨rfl, z.lt⟩
  have mem : ∀ {y c}, cenv.cells.lookup y = some c → (X.env.cells.lookup y = some c ∧ c < s.heap.objs.size) ∨ (s.heap.objs.size + 1 ≤ c ∧ CellAt h' c none) := fun {y c} e => by
    rw [hcl] at e
    rcases cells_mem (PySem.mem_of_lookup e) with hm | ⟨_, h2, h3⟩
    · exact .inl (cm hm)
    · rw [Heap.size_push] at h2
      exact .inr ⟨h2, h3.sameBut hs' (Nat.ne_of_gt h2)⟩
  have look : ∀ {y}, scope.names.lookup y = some .free → ∃ c, cenv.cells.lookup y = some c ∧ X.env.cells.lookup y = some c := fun {y} hl => by
    have hy : (y, NameKind.free) ∈ scope.names := PySem.mem_of_lookup hl
    obtain ⟨c', e'⟩ := mem_lookup (cells_acc (names := scope.names) (n := (s.heap.push { cls := .type "frame", data := .dict #[] }).objs.size) (cloFrom_has (cells := X.env.cells) (acc := []) hy))
    rw [← hcl] at e'
    refine ⟨c', e', ?_⟩
    rw [hcl] at e'
    rcases cells_mem (PySem.mem_of_lookup e') with hm | ⟨h1, _, _⟩
    · exact (cm hm).1
    · have := ok.uniq _ h1
      rw [hl] at this; cases this
  have okB : (gcx X B s H scope cenv fp).Ok := by
    refine ⟨I.ok.mod, by show cenv.scope.kind = _; rw [hsc]; exact ok.kind, by show cenv.globals = _; rw [← hcenv]; exact I.ok.glob, by show cenv.builtins = _; rw [← hcenv]; rfl, by show s.heap.objs.size ≤ cenv.locals; rw [hL]; exact Nat.le_refl _,
      fun y z c e1 e2 => ?_, fun y hy => ?_, fun y c z e => ?_, fun _ => hB.hd, hB.fr, .inr ⟨rfl, by show cenv.frame = _; rw [← hcenv]; rfl⟩, fun b hb => ⟨?_, fun y c e z => ?_⟩, I.bs, Nat.le_trans I.ok.bsz I.sz, fun b o e hb => ?_, fun b hb z => ?_, I.stack, I.stkFree⟩
    · have e1 : cenv.cells.lookup y = some c := e1
      have e2 : cenv.cells.lookup z = some c := e2
      rw [hcl] at e1 e2
      refine cells_inj (fun p hp => ?_) (fun y z c a b => I.ok.inj y z c (cm a).1 (cm b).1) (PySem.mem_of_lookup e1) (PySem.mem_of_lookup e2)
      rw [Heap.size_push]
      exact Nat.lt_succ_of_lt (cm (y := p.1) (c := p.2) hp).2
    · show ∃ c, cenv.cells.lookup y = some c
      have key : ∀ k, cenv.kindOf y = some k → (k = .cell ∨ k = .free) → ∃ c, cenv.cells.lookup y = some c := fun k hk hk' => by
        have hk : scope.names.lookup y = some k := by
          unfold Env.kindOf at hk
          rw [hsc] at hk
          exact hk
        rcases hk' with rfl | rfl
        · obtain ⟨c, hm⟩ := cells_has (n := (s.heap.push { cls := .type "frame", data := .dict #[] }).objs.size) (acc := cloFrom X.env.cells scope.names []) (PySem.mem_of_lookup hk)
          obtain ⟨c', e'⟩ := mem_lookup hm
          exact ⟨c', by rw [hcl]; exact e'⟩
        · obtain ⟨c, h1, _⟩ := look hk
          exact ⟨c, h1⟩
      rcases hy with hy | hy
      · exact key _ hy (.inl rfl)
      · exact key _ hy (.inr rfl)
    · have z : (scope.names.lookup y == some NameKind.cell) = true := z
      have z : scope.names.lookup y = some .cell := by simpa using z
      have e : cenv.cells.lookup y = some c := e
      rw [hcl] at e
      rcases cells_mem (PySem.mem_of_lookup e) with hm | ⟨_, h2, _⟩
      · rcases cloFrom_mem hm with hm | ⟨h1, _⟩
        · cases hm
        · have q := ok.uniq _ h1
          rw [z] at q; cases q
      · rw [Heap.size_push] at h2
        exact Nat.le_of_succ_le h2
    · show b ≠ cenv.locals
      rw [hL]; exact Nat.ne_of_lt (hfp b hb).2
    · have e : cenv.cells.lookup y = some c := e
      rcases mem e with ⟨h1, _⟩ | ⟨h1, _⟩
      · exact (hfp b hb).1.2.2.2.2.1 y c h1 z
      · have h2 : s.heap.objs.size + 1 ≤ b := by rw [← z]; exact h1
        exact absurd (Nat.lt_of_lt_of_le (hfp b hb).2 (Nat.le_of_succ_le h2)) (Nat.lt_irrefl _)
    · rcases (hfp b hb).1.2.2.2.1 with z | z
      · exact I.ok.noex b o e z
      · exact absurd (Nat.lt_of_lt_of_le (Heap.lt_size e) (Nat.le_trans I.ok.bsz z)) (Nat.lt_irrefl _)
    · rcases List.mem_cons.mp (I.stkSub b z) with z | z
      · exact (hfp b hb).1.2.1 z
      · exact (hfp b hb).1.2.2.1 z
  refine ⟨okB, rfl, I.bare, Un.kept kp, ⟨fun y => if y = (".0" : Str) then some it else none, ?_, fun i y av e1 e2 e3 => ?_⟩, fun y c e => ?_, ?_, fun y c e => ?_, fun p hp => ?_, I.hok.kept kp, by rw [wipe_length]; exact I.len⟩
  · show Heap.Ns _ cenv.locals _
    rw [hL]
    exact hn'
  · obtain ⟨e2, hne⟩ := wipe_some e2
    have hfr : scope.names.lookup y = some .free := by
      have e3 : Vis cenv.scope y := e3
      rw [hsc] at e3
      have no : ∀ k, scope.names.lookup y = some k → ¬ (k = .local ∨ k = .cell) := fun k e hh => by
        rcases ok.own _ (PySem.mem_of_lookup e) hh with e' | e'
        · obtain ⟨p, hp, hpy⟩ := List.mem_map.mp e'
          have e3 := ok.ix p hp
          have : p.1 = y := hpy
          rw [this] at e3
          exact hne (List.mem_map.mpr ⟨p, hp, nodup_ix hN e3 e1⟩)
        · exact e' (List.mem_of_getElem? e1)
      rcases e3 with e3 | e3 | e3
      · exact absurd (.inl rfl) (no _ e3)
      · exact absurd (.inr rfl) (no _ e3)
      · exact e3
    have hkf : cenv.kindOf y = some .free := by
      unfold Env.kindOf
      rw [hsc]
      exact hfr
    obtain ⟨m, hn, hl⟩ := I.loc
    have hvis : Vis X.env.scope y := (ok.free _ (PySem.mem_of_lookup hfr) rfl).elim (fun k => .inr (.inl k)) (fun k => .inr (.inr k))
    obtain ⟨w, r, q⟩ := hl i y av e1 e2 hvis
    refine ⟨w, r, .inr ⟨.inr hkf, ?_⟩⟩
    obtain ⟨c, h1, h2⟩ := look hfr
    rcases q with ⟨k, _⟩ | ⟨_, c', e', z⟩
    · have k : X.env.scope.names.lookup y = some .local := k
      rcases ok.free _ (PySem.mem_of_lookup hfr) rfl with k' | k' <;> rw [show X.env.scope.names.lookup y = _ from k'] at k <;> cases k
    · rw [h2] at e'; cases e'
      exact ⟨c, h1, z.keeps kp⟩
  · have e : cenv.cells.lookup y = some c := e
    rcases mem e with ⟨h1, _⟩ | ⟨_, z⟩
    · obtain ⟨w, z⟩ := I.cell y c h1
      exact ⟨w, z.keeps kp⟩
    · exact ⟨_, z⟩
  · show H cenv.locals = none
    rw [hL]; exact I.hok.fresh (Nat.le_refl _)
  · have e : cenv.cells.lookup y = some c := e
    rcases mem e with ⟨h1, _⟩ | ⟨h1, _⟩
    · exact I.freeC y c h1
    · exact I.hok.fresh (Nat.le_of_succ_le h1)
  · exact absurd (show p ∈ ([] : List (Addr × Obj)) ++ [] from hp) (by simp)
/-- the table of generators and the heap have grown -/
theorem inv_gens {g' : Array GenState} {t' : Nat} {d' : Drawn} {h' : Heap} (I : Inv X pins σ H s) (k : ∀ b o, s.heap.get? b = some o → h'.get? b = some o) (hg : AllBare g') : Inv X pins σ H { s with heap := h', gens := g', drawn := d', toks := t' } :=
  I.step (ch := []) (fun b hb => absurd hb (by simp)) (fun b o _ _ _ e _ => k b o e) (fun b o _ _ _ e _ => ⟨o.slots, k b o e⟩) (fun _ _ _ _ n => n) (fun b o _ e => ⟨o, k b o e⟩) (fun _ _ e => e) (fun _ _ _ e => e) (fun b ps e => ⟨#[], by rw [e]; simp⟩)
    (fun m hn => hn.keeps k) (I.hok.kept k) hg
theorem over_gen {A : Around} {elt tg iter : Expr} {ifs : List Expr} {scope : Scope} {pos : Pos} {it acc : Value} {env : Env} : A.over (.compLoop (.GeneratorExp elt [⟨tg, iter, ifs, 0⟩] scope pos) 0 it acc env) [] = A.deeper env := by
  first
    | rfl
    | (obtain ⟨hd, d, fr, gs, u⟩ := A; simp [Around.over, Around.deeper, marksOver, frameCount, unitsOf, envsOf, guardsOf, pushEnvs, pushGuards, Code.envs, Code.env?, Code.isFrame, Code.guards, Code.isGuard, Code.weight, Code.frames, Code.isCreation, Code.isCaller, Code.cUnits])
theorem over_gen0 {A : Around} {elt tg iter : Expr} {ifs : List Expr} {scope : Scope} {pos : Pos} {it acc : Value} {env : Env} : A.over (.compStart (.GeneratorExp elt [⟨tg, iter, ifs, 0⟩] scope pos) 0 it acc env) [] = A.deeper env := by
  first
    | rfl
    | (obtain ⟨hd, d, fr, gs, u⟩ := A; simp [Around.over, Around.deeper, marksOver, frameCount, unitsOf, envsOf, guardsOf, pushEnvs, pushGuards, Code.envs, Code.env?, Code.isFrame, Code.guards, Code.isGuard, Code.weight, Code.frames, Code.isCreation, Code.isCaller, Code.cUnits])
end
end GX

namespace GX
open PySem PySem.Spec PyProof.Rows L2 GenW
/-- what a consumer of the items does with one: N is what is wanted where it goes on -/
abbrev Stps (α : Type) := α → V → Hp → (α → Hp → Prop) → Prop
/-- while the generator sleeps: the objects at Ss may be others, all else is kept -/
structure Slp (Ss : List Addr) (s s' : Shared) : Prop where
  os : s'.os = s.os
  bare : AllBare s'.gens
  keep : ∀ b o, b ∉ Ss → s.heap.get? b = some o → s'.heap.get? b = some o
  own : ∀ b ∈ Ss, ∃ o, s'.heap.get? b = some o ∧ ∀ v, o.data ≠ .cell v
/-- the consumer's objects are none of the generator's -/
structure SsOk (Xg : Cx) (gp : Addr × Obj) (fp Ss : List Addr) : Prop where
  all : ∀ b ∈ Ss, Xg.s_0.heap.objs.size ≤ b ∧ b ≠ Xg.env.locals ∧ (∀ x c, Xg.env.cells.lookup x = some c → c ≠ b) ∧ b ∉ fp ∧ b ≠ gp.1
  pn : Xg.pn = []
/-- the generator's state at turn i -/
def GSt (Xg : Cx) (gp : Addr × Obj) (fp : List Addr) (tn : Nat → Heap → Prop) (Ss : List Addr) (σ0 : L2.St) (i : Nat) (H : Hp) (s : Shared) : Prop :=
  ∃ cp : List (Addr × Obj), cp.map (·.1) = Ss ∧ Inv Xg (gp :: cp) σ0 H s ∧ tn i s.heap ∧ ∀ b ∈ fp, H b = none
section
variable {Xg : Cx} {gp : Addr × Obj} {fp : List Addr} {tn : Nat → Heap → Prop} {Ss : List Addr} {σ0 : L2.St} {i : Nat} {H : Hp} {s s' : Shared}
theorem pins_exist : ∀ (Ss : List Addr) (h : Heap), (∀ b ∈ Ss, ∃ o, h.get? b = some o ∧ ∀ v, o.data ≠ .cell v) → ∃ cp : List (Addr × Obj), cp.map (·.1) = Ss ∧ ∀ p ∈ cp, h.get? p.1 = some p.2 ∧ ∀ v, p.2.data ≠ .cell v
  | [], _, _ => ⟨[], rfl, fun _ h => nomatch h⟩
  | b :: r, h, k => by
    obtain ⟨o, e, d⟩ := k b (List.mem_cons_self ..)
    obtain ⟨cp, e1, e2⟩ := pins_exist r h fun x hx => k x (List.mem_cons_of_mem _ hx)
    refine ⟨(b, o) :: cp, by rw [List.map_cons, e1], fun p hp => ?_⟩
    rcases List.mem_cons.mp hp with z | z
    · rw [z]; exact ⟨e, d⟩
    · exact e2 p z
theorem GSt.woken {P : Program} {w : World} {K : PySem.W.Frag} {tg : Expr} {J : It} {it : Addr} (T : Turn P w K tg J fp it tn) (hS : SsOk Xg gp fp Ss) (h : GSt Xg gp fp tn Ss σ0 i H s) (z : Slp Ss s s') : GSt Xg gp fp tn Ss σ0 i H s' := by
  obtain ⟨cp, ecp, I, st, nf⟩ := h
  have free : ∀ b ∈ Ss, H b = none ∧ b ∉ Xg.fs := fun b hb => by
    rw [← ecp] at hb
    obtain ⟨p, hp, rfl⟩ := List.mem_map.mp hb
    obtain ⟨_, h2, _, h4, _⟩ := I.pin p (List.mem_append_right _ (List.mem_cons_of_mem _ hp))
    exact ⟨h2, h4⟩
  obtain ⟨z1, z2, z3, z4⟩ := z
  obtain ⟨hh, g, d, t, o⟩ := s'
  have ho : o = s.os := z1
  subst ho
  have I0 : Inv Xg [gp] σ0 H s := I.pins_of fun p hp => I.pin p (List.mem_append_right _ (by rw [List.mem_singleton.mp hp]; exact List.mem_cons_self ..))
  have nt : ∀ b u, H b = some u → b ∉ Ss := fun b u q hb => by rw [(free b hb).1] at q; cases q
  have J : Inv Xg [gp] σ0 H { s with heap := hh, gens := g, drawn := d, toks := t } := by
    refine I0.step (g' := g) (t' := t) (d' := d) (ch := Ss) (fun b hb => ?_) (fun b ob _ _ hc q _ => z3 b ob hc q) (fun b ob _ _ hc q _ => ⟨ob.slots, z3 b ob hc q⟩) (fun _ _ _ _ n => n) (fun b ob hc q => ⟨ob, z3 b ob hc q⟩)
      (fun _ _ q => q) (fun _ _ _ q => q) (fun b ps q => ⟨#[], by rw [q]; simp⟩) (fun m hm => ?_) (fun b u q => ?_) z2
    · obtain ⟨a1, a2, a3, a4, a5⟩ := hS.all b hb
      refine ⟨.inr a1, a2, a3, fun p hp => ?_⟩
      rw [hS.pn] at hp
      rw [List.mem_singleton.mp hp]
      exact Ne.symm a5
    · obtain ⟨ob, es, ep, ho, r⟩ := hm
      exact ⟨ob, es, ep, z3 _ ob (fun q => (hS.all _ q).2.1 rfl) ho, r⟩
    · refine (I0.hok b u q).stay (fun c v hc y => z3 c v ?_ y) (fun _ y => y) fun _ _ y => y
      rcases hc with y | y
      · rw [y]; exact nt b u q
      · exact nt c _ y
  obtain ⟨cp2, e2, k2⟩ := pins_exist Ss hh z4
  refine ⟨cp2, e2, J.pins_of fun p hp => ?_, T.keep _ _ _ st fun b hb ob e => z3 b ob (fun q => (hS.all b q).2.2.2.1 hb) e, nf⟩
  rcases List.mem_cons.mp hp with hp | hp
  · rw [hp]
    exact J.pin gp (List.mem_append_right _ (List.mem_cons_self ..))
  · have hm : p.1 ∈ Ss := by rw [← e2]; exact List.mem_map_of_mem hp
    exact ⟨(k2 p hp).1, (free _ hm).1, (hS.all _ hm).2.1, (free _ hm).2, (k2 p hp).2⟩
end
section
variable {α : Type} (CRel : α → Heap → Prop) (Stp : Stps α) (Fin : α → Hp → Prop) (Xg : Cx) (gp : Addr × Obj) (fp : List Addr) (tn : Nat → Heap → Prop) (Ss : List Addr) (σ0 : L2.St)
def YG : Protocol := fun _ s₀ v s kap => ∃ (i : Nat) (x : V) (acc : α) (H : Hp) (Nx : α → Hp → Prop), RelV x v ∧ GSt Xg gp fp tn Ss σ0 i H s ∧ CRel acc s₀.heap ∧ (∀ b ∈ Ss, s.heap.get? b = s₀.heap.get? b) ∧ Stp acc x H Nx ∧
  ∀ s' acc', Slp Ss s s' → CRel acc' s'.heap → Nx acc' H → kap (.send .none) s'
def RGp : Shared → Shared → Prop := fun s₀ s => ∃ (acc : α) (H : Hp) (cp : List (Addr × Obj)), cp.map (·.1) = Ss ∧ Inv Xg (gp :: cp) σ0 H s ∧ CRel acc s₀.heap ∧ (∀ b ∈ Ss, s.heap.get? b = s₀.heap.get? b) ∧ Fin acc H
def RG : GenEnd := fun _ s₀ r s => r = .ok .next ∧ RGp CRel Fin Xg gp Ss σ0 s₀ s
/-- the reading of the turns -/
def TurnsR (J : It) (g : TG) (tt : TT) (te : TE) (vs : List Nat) (σ : L2.St) (W : Nat → Nat → α → Hp → Prop) : Prop := ∀ i m a H, W i m a H →
  (J.stop i H ∧ Fin a H) ∨ (J.go i H ∧ ∃ Nx : α → Hp → Prop, (∀ a' H', Nx a' H' → ∃ m', m' < m ∧ W (i + 1) m' a' H') ∧ ∀ x H', J.yld i H x H' → g x (wipe σ vs) H' fun σ2 H2 => wipe σ2 vs = wipe σ vs ∧ tt σ2 H2 fun b H3 =>
    if b = true then te σ2 H3 fun y H4 => Stp a y H4 Nx else Nx a H3)
end
section
variable {α : Type} {CRel : α → Heap → Prop} {Stp : Stps α} {Fin : α → Hp → Prop} {Xg : Cx} {gp : Addr × Obj} {fp : List Addr} {tn : Nat → Heap → Prop} {Ss : List Addr} {σ : L2.St}
theorem gx_loop {B : Around} {tg elt iter : Expr} {ifs : List Expr} {scope : Scope} {gpos : Pos} {it : Addr} {J : It} {g : TG} {tt : TT} {te : TE} {vs : List Nat} {W : Nat → Nat → α → Hp → Prop} (hov : B.deeper Xg.env = Xg.A) (hc : Xg.calm = true) (hco : Xg.env.scope.isCoroutine = false) (hxe : Xg.xe = fun _ _ => False)
    (T : Turn Xg.prog Xg.w Xg.K tg J fp it tn) (hfp : ∀ b ∈ fp, ∀ H', H' b = none → FpOk Xg [] H' b) (hS : SsOk Xg gp fp Ss) (hgf : gp.1 ∉ fp) (hg : PG Xg tg g) (ht : PTs Xg ifs tt) (he : PE Xg elt te) (turn : TurnsR Stp Fin J g tt te vs σ W) :
    ∀ (m n i : Nat) (acc : α) (H : Hp) (s₀ s : Shared), m < n → W i m acc H → CRel acc s₀.heap → (∀ b ∈ Ss, s.heap.get? b = s₀.heap.get? b) → GSt Xg gp fp tn Ss (wipe σ vs) i H s →
      Seg (model Xg.prog Xg.w) B (RG CRel Fin Xg gp Ss (wipe σ vs)) (YG CRel Stp Xg gp fp tn Ss (wipe σ vs)) n s₀ (.compLoop (.GeneratorExp elt [⟨tg, iter, ifs, 0⟩] scope gpos) 0 (.ref it) .none Xg.env)
        ((model Xg.prog Xg.w).den (.compLoop (.GeneratorExp elt [⟨tg, iter, ifs, 0⟩] scope gpos) 0 (.ref it) .none Xg.env)) [] s := by
  have hover : B.over (.compLoop (.GeneratorExp elt [⟨tg, iter, ifs, 0⟩] scope gpos) 0 (.ref it) .none Xg.env) [] = Xg.A := over_gen.trans hov
  intro m
  induction m using Nat.strongRecOn with
  | ind m ih =>
    intro n i acc H s₀ s hmn w crel ksS hst
    obtain ⟨cp, ecp, I, st, nf⟩ := hst
    have fpOk : ∀ {pins : List (Addr × Obj)} {σ' : L2.St} {H' : Hp} {s' : Shared}, pins.map (·.1) = gp.1 :: Ss → Inv Xg pins σ' H' s' → (∀ b ∈ fp, H' b = none) → ∀ b ∈ fp, FpOk Xg pins H' b := fun {pins σ' H' s'} ep I' hn b hb => by
      obtain ⟨a0, a1, a2, a3, a4, _⟩ := hfp b hb H' (hn b hb)
      refine ⟨a0, a1, a2, a3, a4, fun p hp z => ?_⟩
      rw [hS.pn, List.nil_append] at hp
      have hm : p.1 ∈ gp.1 :: Ss := by rw [← ep]; exact List.mem_map_of_mem hp
      rcases List.mem_cons.mp hm with q | q
      · rw [z] at q; exact hgf (q ▸ hb)
      · rw [z] at q; exact (hS.all b q).2.2.2.1 hb
    have epin : (gp :: cp).map (·.1) = gp.1 :: Ss := by rw [List.map_cons, ecp]
    have ownSs : ∀ {extra : List (Addr × Obj)} {σ' : L2.St} {H' : Hp} {s' : Shared}, Inv Xg ((gp :: cp) ++ extra) σ' H' s' → ∀ b ∈ Ss, s'.heap.get? b = s₀.heap.get? b := fun {extra σ' H' s'} I' b hb => by
      rw [← ksS b hb]
      rw [← ecp] at hb
      obtain ⟨p, hp, rfl⟩ := List.mem_map.mp hb
      rw [(I'.pin p (List.mem_append_right _ (List.mem_append_left _ (List.mem_cons_of_mem _ hp)))).1, (I.pin p (List.mem_append_right _ (List.mem_cons_of_mem _ hp))).1]
    have I := I
    show Seg _ B _ _ _ s₀ _ ((compTurn (.GeneratorExp elt [⟨tg, iter, ifs, 0⟩] scope gpos) 0 (.ref it) .none Xg.env).onRaise (leaving Xg.env)) [] s
    rw [compTurn_gen, Sem.onRaise_eq_wrap]
    refine seg_bind_wrap (wpAny_standAt ?_)
    rcases turn i m acc H w with ⟨stop, qf⟩ | ⟨go, Nx, hNx, step⟩
    · refine seg_bind_wrap ?_
      rw [hover]
      refine wpAny_mono (T.done Xg rfl rfl rfl hc i (gp :: cp) s (wipe σ vs) H (fun _ _ => False) I (fpOk epin I nf) st stop) (fun r s1 ⟨hr, I1⟩ => ?_) fun _ _ z => z.elim
      subst hr
      exact seg_end (.ok .next) ⟨rfl, acc, H, cp, ecp, I1, crel, ownSs (extra := []) (by rw [List.append_nil]; exact I1), qf⟩
    · refine seg_bind_wrap ?_
      rw [hover]
      refine wpAny_mono (T.item Xg rfl rfl rfl hc i (gp :: cp) s (wipe σ vs) H (fun _ _ => False) I (fpOk epin I nf) st go) (fun r s1 ⟨u, hr, h1⟩ => ?_) fun _ _ z => z.elim
      subst hr
      refine seg_bind_wrap ?_
      rw [hover]
      refine wpAny_mono h1 (fun _ s2 ⟨x, H2, I2, rx, y2, st2, n2⟩ => ?_) fun _ _ z => z.elim
      have I2' := I2.pinned (fpOk epin I2 n2) (T.obj _ _ st2)
      have hxe' : ∀ {α : Type} {t : Sem α} {Q : α → Shared → Prop} {E : Value → Shared → Prop} {s : Shared}, wpAny (model Xg.prog Xg.w) Xg.A t Q Xg.xe s → wpAny (model Xg.prog Xg.w) Xg.A t Q E s := fun h => wpAny_mono h (fun _ _ z => z) fun _ _ z => by rw [hxe] at z; exact z.elim
      refine seg_bind_wrap ?_
      rw [hover]
      refine wpAny_mono (hxe' (hg.run _ s2 (wipe σ vs) H2 x u _ I2' rx (step x H2 y2))) (fun _ s3 ⟨σ3, H3, I3, hw3, q3⟩ => ?_) fun _ _ z => z
      refine seg_bind_wrap ?_
      rw [hover]
      refine wpAny_mono (hxe' (ht.run _ s3 σ3 H3 _ I3 q3)) (fun b s4 ⟨H4, I4, q4⟩ => ?_) fun _ _ z => z
      -- the turn's end
      have fin : ∀ {s' : Shared} {H' : Hp}, Inv Xg ((gp :: cp) ++ pinsAt fp s2.heap) σ3 H' s' → GSt Xg gp fp tn Ss (wipe σ vs) (i + 1) H' s' := fun {s' H'} I' => by
        have pin' : ∀ b ∈ fp, ∀ o, s2.heap.get? b = some o → s'.heap.get? b = some o ∧ H' b = none := fun b hb o e =>
          let z := I'.pin (b, o) (List.mem_append_right _ (List.mem_append_right _ (mem_pinsAt hb e)))
          ⟨z.1, z.2.1⟩
        have hl : (wipe σ vs).length = σ3.length := by rw [← hw3, wipe_length]
        refine ⟨cp, ecp, (I'.unpinned (pins := gp :: cp)).weak hl (fun j v e => ?_), T.keep _ _ _ st2 fun b hb o e => (pin' b hb o e).1, fun b hb => ?_⟩
        · rw [← hw3] at e
          exact (wipe_some e).1
        · obtain ⟨o, e, _⟩ := T.obj _ _ st2 b hb
          exact (pin' b hb o e).2
      cases b with
      | false =>
        simp only [Bool.false_eq_true, if_false] at q4 ⊢
        obtain ⟨m', hm, w'⟩ := hNx _ _ q4
        exact seg_again rfl (ih m' hm n (i + 1) acc H4 s₀ s4 (by omega) w' crel (ownSs I4) (fin I4))
      | true =>
        simp only [if_true] at q4 ⊢
        have hy : ∀ v, yieldOut Xg.env v = yieldValue v := fun v => by simp only [yieldOut, hco, Bool.false_eq_true, if_false]
        simp only [hy]
        obtain ⟨n', rfl⟩ : ∃ n', n = n' + 1 := ⟨n - 1, by omega⟩
        rw [Sem.bind_eq_wrap', Sem.bind_eq_wrap', Sem.wrap_wrap, Sem.wrap_wrap]
        refine seg_wrap ?_
        rw [hover]
        refine wpAny_mono (hxe' (he.run _ s4 σ3 H4 _ I4 q4)) (fun yv s5 ⟨y, H5, I5, ry, q5⟩ => ?_) fun _ _ z => z
        refine seg_at (seg_yield rfl rfl rfl ⟨i + 1, y, acc, H5, Nx, ry, fin I5, crel, ownSs I5, q5, fun s6 acc' sl cr nx => ?_⟩)
        obtain ⟨m', hm, w'⟩ := hNx _ _ nx
        exact seg_again rfl (ih m' hm n' (i + 1) acc' H5 s6 s6 (by omega) w' cr (fun _ _ => rfl) ((fin I5).woken T hS sl))
end
end GX

namespace GX
open PySem PySem.Spec PyProof.Rows L2 GenW
section
variable {X : Cx} {pins : List (Addr × Obj)} {σ : L2.St} {H : Hp} {s : Shared}
/-- the generator is made: at a, its frame laid, its first turn not begun; s3: the state ahead of its frame -/
structure Made (X : Cx) (pins : List (Addr × Obj)) (σ : L2.St) (tg elt iter : Expr) (ifs : List Expr) (scope : Scope) (gpos : Pos) (own : List (Str × Nat)) (J : It) (code : Value) (H3 : Hp) (s3 : Shared) (it : Addr) (fp : List Addr) (tn : Nat → Heap → Prop) (a : Addr) (g : Nat) (gob : Obj) (s5 : Shared) : Prop where
  inv : Inv X pins σ H3 s3
  turn : Turn X.prog X.w X.K tg J fp it tn
  fps : ∀ b ∈ fp, FpOk X pins H3 b ∧ b < s3.heap.objs.size
  st : tn 0 s5.heap
  ag : s3.heap.objs.size ≤ a
  get : s5.heap.get? a = some gob
  obj : gob.cls = .type "generator" ∧ (∃ nm qn, gob.data = .fields #[.int g 0, nm, qn]) ∧ gob.slots = #[]
  gen : s5.gens[g]? = some (.fresh (.compStart (.GeneratorExp elt [⟨tg, iter, ifs, 0⟩] scope gpos) 0 (.ref it) .none (gEnv X scope s3 code)))
  sub : ∀ B : Around, BOk X B (gEnv X scope s3 code) → Inv (gcx X B s3 H3 scope (gEnv X scope s3 code) fp) [(a, gob)] (wipe σ (own.map (·.2))) H3 s5
theorem Made.isGen {tg elt iter : Expr} {ifs : List Expr} {scope : Scope} {gpos : Pos} {own : List (Str × Nat)} {J : It} {code : Value} {H3 : Hp} {s3 : Shared} {it : Addr} {fp : List Addr} {tn : Nat → Heap → Prop} {a : Addr} {g : Nat} {gob : Obj} {s5 : Shared} (M : Made X pins σ tg elt iter ifs scope gpos own J code H3 s3 it fp tn a g gob s5)
    {h : Heap} (e : h.get? a = some gob) : h.IsGen a g := let ⟨h1, ⟨nm, qn, h2⟩, h3⟩ := M.obj; ⟨gob, nm, qn, e, h1, h2, h3⟩
theorem gx_eval {tg elt iter : Expr} {ifs : List Expr} {scope : Scope} {gpos : Pos} {own : List (Str × Nat)} {ti : TI} {tc : TC} {P0 : Addr} {k : Nat} {Want : It → Value → Hp → Prop} {Q' : Value → Shared → Prop} (I : Inv X pins σ H s) (hN : X.N.Nodup) (room : Room k X.A) (hi : PI X tg iter ti) (hpc : PC X gpos scope tc) (BA : X.base.BuiltinsAt X.mg P0) (ok : GOk X.N X.env.scope scope own)
    (hs : ∀ v, genFold iter X.env v = pure v) (h : ti σ H fun J H1 => tc σ H1 fun code H2 => Want J code H2)
    (fin : ∀ J code H3 s3 it fp tn a g gob s5, Want J code H3 → Made X pins σ tg elt iter ifs scope gpos own J code H3 s3 it fp tn a g gob s5 → Q' (.ref a) s5) :
    wpAny (model X.prog X.w) X.A (eval (.GeneratorExp elt [⟨tg, iter, ifs, 0⟩] scope gpos) X.env) Q' X.xe s := by
  have hfree : ∀ y ∈ scope.names, y.2 = .free → ∃ c, X.env.cells.lookup y.1 = some c := fun y hy e => by
    rcases ok.blk.free y hy e with k | k
    · exact I.ok.has _ (.inl k)
    · exact I.ok.has _ (.inr k)
  have deep : X.A.depth < recursionLimit := by have := room.dp; omega
  rw [eval_GeneratorExp1 _ _ _ _ _ _ _ ok.co, closure_ok hfree]
  refine wpAny_bind (thn (hi.run pins s σ H _ I h) fun xv s1 h1 => ?_)
  refine wpAny_bind (wpAny_standAt ?_)
  refine wpAny_bind (wpAny_of_eq (hs xv) ?_)
  refine wpAny_bind (wpAny_holding (thn h1 fun itv s2 h2 => ?_))
  obtain ⟨it, fp, tn, J, H2, e, I2, T, st2, f2, q2⟩ := h2
  subst e
  refine wpAny_bind (wpAny_enterFrame I2.nolimit deep ?_)
  refine wpAny_bind (wpAny_pure ?_)
  have sz : ∀ b ∈ fp, b < s2.heap.objs.size := fun b hb => by
    obtain ⟨o, e, _⟩ := T.obj _ _ st2 b hb
    exact Heap.lt_size e
  have I2' := I2.pinned f2 (T.obj _ _ st2)
  refine wpAny_bind (thn (hpc.run _ s2 σ H2 _ _ I2' q2) fun code s3 ⟨H3, I3', le3, want⟩ => ?_)
  have pin3 : ∀ b ∈ fp, ∀ o, s2.heap.get? b = some o → s3.heap.get? b = some o ∧ H3 b = none := fun b hb o e =>
    let z := I3'.pin (b, o) (List.mem_append_right _ (List.mem_append_right _ (mem_pinsAt hb e)))
    ⟨z.1, z.2.1⟩
  have I3 : Inv X pins σ H3 s3 := I3'.unpinned
  have st3 : tn 0 s3.heap := T.keep _ _ _ st2 fun b hb o e => (pin3 b hb o e).1
  have f3 : ∀ b ∈ fp, FpOk X pins H3 b ∧ b < s3.heap.objs.size := fun b hb => by
    obtain ⟨o, e, _⟩ := T.obj _ _ st2 b hb
    exact ⟨⟨(pin3 b hb o e).2, (f2 b hb).2⟩, Heap.lt_size (pin3 b hb o e).1⟩
  obtain ⟨bm, ob, b1, b2, _, _, b3, b4, b5, b6⟩ := BA
  have glob : s3.heap.Ns X.env.globals X.mg := by rw [I3.ok.glob]; exact I3.mod.glob.keeps I3.bk
  refine wpAny_bind (wpAny_builtinsFor (m := X.mg) glob b1 b2 (I3.bk bm ob b3) b4 b5 b6 ?_)
  refine wpAny_bind (newGenEnv (s := s3) ok.blk.kind ok.dot fun h' hn' hs' => ?_)
  simp only [newGenerator, newFields]
  refine wpAny_bind (wpAny_newGen (wpAny_bind (wpAny_mkText (wpAny_bind (wpAny_mkText (wpAny_newObj_type ?_ (by size_fits)))))))
  have kp0 : ∀ b o, s3.heap.get? b = some o → h'.get? b = some o := fun b o e => hs'.extBut b o (Nat.ne_of_lt (Heap.lt_size e)) (pushCells_keeps _ _ _ _ (Heap.get?_push_of_some _ e))
  have hsz : s3.heap.objs.size < h'.objs.size := hn'.lt
  refine fin J code H3 s3 it fp tn h'.objs.size s3.gens.size _ _ want ⟨I3, T, f3, ?_, Nat.le_of_lt hsz, Heap.get?_push_size _ rfl, ⟨rfl, ⟨_, _, rfl⟩, rfl⟩, Array.getElem?_push_size .., fun B hB => ?_⟩
  · exact T.keep _ _ _ st3 fun b _ o e => Heap.get?_push_of_some _ (kp0 b o e)
  · have I4 := gx_start (t' := s3.toks + 1) (it := .ref it) I3 ok hN f3 hB hn' hs'
    have I5 := inv_gens (g' := s3.gens.push (.fresh (.compStart (.GeneratorExp elt [⟨tg, iter, ifs, 0⟩] scope gpos) 0 (.ref it) .none (gEnv X scope s3 code)))) (d' := s3.drawn) (t' := s3.toks + 1 + 1 + 1) (h' := h'.push { cls := .type "generator", data := .fields #[.int s3.gens.size 0, .str "<genexpr>" (s3.toks + 1), .str (X.env.qual ++ "<genexpr>") (s3.toks + 1 + 1)] }) I4 (fun b o e => Heap.get?_push_of_some _ e) (I3.bare.push rfl)
    refine I5.pins_of fun p hp => ?_
    rw [List.mem_singleton.mp hp]
    have nw : H3 h'.objs.size = none := I4.hok.fresh (Nat.le_refl _)
    exact ⟨Heap.get?_push_size _ rfl, nw, Nat.ne_of_gt I4.lt, I4.nofs (Nat.le_refl _), fun v z => by cases z⟩
end
end GX

namespace GX
open PySem PySem.Spec PyProof.Rows L2 GenW
section
variable {X : Cx} {pins : List (Addr × Obj)} {σ : L2.St} {tg elt iter : Expr} {ifs : List Expr} {scope : Scope} {gpos : Pos} {own : List (Str × Nat)} {J : It} {code : Value} {H3 : Hp} {s3 : Shared} {it : Addr} {fp : List Addr} {tn : Nat → Heap → Prop} {a : Addr} {g : Nat} {gob : Obj} {s5 : Shared}
/-- back in the def's context -/
theorem Made.back (M : Made X pins σ tg elt iter ifs scope gpos own J code H3 s3 it fp tn a g gob s5) {B : Around} {ps : List (Addr × Obj)} {σ' : L2.St} {H : Hp} {s1 s' : Shared} (I1 : Inv (gcx X B s3 H3 scope (gEnv X scope s3 code) fp) ps σ' H s1) (ho : s'.os = s1.os) (hb : AllBare s'.gens) (k : ∀ b o, s1.heap.get? b = some o → s'.heap.get? b = some o) : Inv X pins σ H s' := by
  refine M.inv.call' (ch := fp) (ho.trans I1.os) (I1.base.trans (Un.kept k)) (I1.hok.kept k) hb fun b hb => ?_
  have f := (M.fps b hb).1
  exact ⟨f.2.2.2.1, f.2.1, f.2.2.2.2.1, f.2.2.2.2.2⟩
abbrev Made.cx (_ : Made X pins σ tg elt iter ifs scope gpos own J code H3 s3 it fp tn a g gob s5) (A : Around) : Cx := gcx X (A.deeper (gEnv X scope s3 code)) s3 H3 scope (gEnv X scope s3 code) fp
theorem Made.bok (_ : Made X pins σ tg elt iter ifs scope gpos own J code H3 s3 it fp tn a g gob s5) {A : Around} (hd : A.handled = none) (hf : A.frames = some X.stack) : BOk X (A.deeper (gEnv X scope s3 code)) (gEnv X scope s3 code) := ⟨hd, Around.frames_deeper hf⟩
theorem Made.ss (M : Made X pins σ tg elt iter ifs scope gpos own J code H3 s3 it fp tn a g gob s5) {A : Around} (hB : BOk X (A.deeper (gEnv X scope s3 code)) (gEnv X scope s3 code)) {Ss : List Addr} (h : ∀ b ∈ Ss, s5.heap.objs.size ≤ b) : SsOk (M.cx A) (a, gob) fp Ss := by
  have I5 := M.sub _ hB
  refine ⟨fun b hb => ?_, rfl⟩
  have lt := h b hb
  refine ⟨Nat.le_trans I5.sz lt, Nat.ne_of_gt (Nat.lt_of_lt_of_le I5.lt lt), fun x c e z => ?_, fun z => ?_, fun z => ?_⟩
  · obtain ⟨v, q⟩ := I5.cell x c e
    have := q.lt
    rw [z] at this
    exact Nat.lt_irrefl _ (Nat.lt_of_lt_of_le this lt)
  · have := (M.fps b z).2
    exact Nat.lt_irrefl _ (Nat.lt_of_lt_of_le this (Nat.le_trans I5.sz lt))
  · have e := M.get
    have z : b = a := z
    rw [← z] at e
    exact Nat.lt_irrefl _ (Nat.lt_of_lt_of_le (Heap.lt_size e) lt)
/-- the first turn -/
theorem Made.wake (M : Made X pins σ tg elt iter ifs scope gpos own J code H3 s3 it fp tn a g gob s5) {α : Type} {CRel : α → Heap → Prop} {Stp : Stps α} {Fin : α → Hp → Prop} {Ss : List Addr} {g' : TG} {tt : TT} {te : TE} {W : Nat → Nat → α → Hp → Prop} {A : Around} {m0 n : Nat} {a0 : α} {s2 : Shared}
    (hco : scope.isCoroutine = false) (hd : A.handled = none) (hf : A.frames = some X.stack) (hg : PG (M.cx A) tg g') (ht : PTs (M.cx A) ifs tt) (he : PE (M.cx A) elt te) (turn : TurnsR Stp Fin J g' tt te (own.map (·.2)) σ W) (w0 : W 0 m0 a0 H3) (hmn : m0 < n)
    (ho : s2.os = s5.os) (hb : AllBare s2.gens) (hk : ∀ b o, s5.heap.get? b = some o → s2.heap.get? b = some o) (hS : ∀ b ∈ Ss, s5.heap.objs.size ≤ b ∧ ∃ o, s2.heap.get? b = some o ∧ ∀ v, o.data ≠ .cell v) (cr : CRel a0 s2.heap) :
    Seg (model X.prog X.w) A (RG CRel Fin (M.cx A) (a, gob) Ss (wipe σ (own.map (·.2)))) (YG CRel Stp (M.cx A) (a, gob) fp tn Ss (wipe σ (own.map (·.2)))) n s2 (.compStart (.GeneratorExp elt [⟨tg, iter, ifs, 0⟩] scope gpos) 0 (.ref it) .none (gEnv X scope s3 code))
      ((model X.prog X.w).den (.compStart (.GeneratorExp elt [⟨tg, iter, ifs, 0⟩] scope gpos) 0 (.ref it) .none (gEnv X scope s3 code))) [] s2 := by
  have hB := M.bok hd hf
  have I5 := M.sub _ hB
  have SO := M.ss hB fun b hb => (hS b hb).1
  have hgf : a ∉ fp := fun z => Nat.lt_irrefl _ (Nat.lt_of_lt_of_le (M.fps a z).2 M.ag)
  have fpOk : ∀ b ∈ fp, ∀ H' : Hp, H' b = none → FpOk (M.cx A) [] H' b := fun b hb H' hn => by
    refine ⟨hn, (I5.ok.exf b hb).1, I5.ok.exfs b hb, .inl hb, fun x c e => (I5.ok.exf b hb).2 x c e, fun p hp => absurd (show p ∈ ([] : List (Addr × Obj)) ++ [] from hp) (by simp)⟩
  have I2 : Inv (M.cx A) [(a, gob)] (wipe σ (own.map (·.2))) H3 s2 := by
    have J := inv_gens (g' := s2.gens) (d' := s2.drawn) (t' := s2.toks) I5 hk hb
    rw [GxR.sh_eta s5 s2 ho] at J
    exact J
  obtain ⟨cp, ecp, hcp⟩ := pins_exist Ss s2.heap fun b hb => (hS b hb).2
  have st2 : GSt (M.cx A) (a, gob) fp tn Ss (wipe σ (own.map (·.2))) 0 H3 s2 := by
    refine ⟨cp, ecp, I2.pins_of fun p hp => ?_, M.turn.keep _ _ _ M.st fun b _ o e => hk b o e, fun b hb => (M.fps b hb).1.1⟩
    rcases List.mem_cons.mp hp with z | z
    · rw [z]
      exact I2.pin (a, gob) (List.mem_append_right _ (List.mem_cons_self ..))
    · have hm : p.1 ∈ Ss := by rw [← ecp]; exact List.mem_map_of_mem z
      have lt := (hS _ hm).1
      exact ⟨(hcp p z).1, I5.hok.fresh lt, (SO.all _ hm).2.1, I5.nofs lt, (hcp p z).2⟩
  have loop := gx_loop (iter := iter) (gpos := gpos) (B := A) (CRel := CRel) (Xg := M.cx A) (scope := scope) (it := it) rfl rfl hco rfl M.turn fpOk SO hgf hg ht he turn m0 n 0 a0 H3 s2 s2 hmn w0 cr (fun _ _ => rfl) st2
  have hover : A.over (.compStart (.GeneratorExp elt [⟨tg, iter, ifs, 0⟩] scope gpos) 0 (.ref it) .none (gEnv X scope s3 code)) [] = A.deeper (gEnv X scope s3 code) := over_gen0
  show Seg _ A _ _ _ s2 _ ((compStart (.GeneratorExp elt [⟨tg, iter, ifs, 0⟩] scope gpos) 0 (.ref it) .none (gEnv X scope s3 code)).onRaise (leaving (gEnv X scope s3 code))) [] s2
  unfold compStart
  rw [Sem.onRaise_eq_wrap]
  show Seg _ A _ _ _ s2 _ ((ask >>= _).wrap _ _ _ _) [] s2
  have st := M.turn.keep _ _ _ M.st fun b _ o e => hk b o e
  refine seg_bind_wrap (wpAny_askSetting ?_)
  split
  · exact seg_again rfl loop
  · first
      | exact seg_bind_wrap (wpAny_rule (seg_bind_wrap (wpAny_standAt (seg_bind_wrap (M.turn.self _ 0 s2 _ _ st (seg_again rfl loop))))))
      | (refine seg_bind_wrap (wpAny_rule ?_); show Seg _ A _ _ _ s2 _ ((standAt iter.pos >>= _).wrap _ _ _ _) [] s2; exact seg_bind_wrap (wpAny_standAt (seg_bind_wrap (M.turn.self _ 0 s2 _ _ st (seg_again rfl loop)))))
/-- next -/
theorem Made.next (M : Made X pins σ tg elt iter ifs scope gpos own J code H3 s3 it fp tn a g gob s5) {α : Type} {CRel : α → Heap → Prop} {Stp : Stps α} {Fin : α → Hp → Prop} {Ss : List Addr} {σ0 : L2.St} {A : Around} {n : Nat} {s : Shared} {gs : GenState} {Qo : Option Value → Shared → Prop} {E : Value → Shared → Prop}
    (hh : A.handled = none) (hdp : A.depth < recursionLimit) (hG : s.heap.get? a = some gob) (hl : s.heap.NoLimit) (hgs : s.gens[g]? = some gs)
    (hgo : gs.Goes (model X.prog X.w) A.in1 (RG CRel Fin (M.cx A.in1) (a, gob) Ss σ0) (YG CRel Stp (M.cx A.in1) (a, gob) fp tn Ss σ0) n (.send .none) (s.setGen g .running))
    (hY : ∀ v s1 gs' i x acc H Nx, gs'.bare = true → RelV x v → GSt (M.cx A.in1) (a, gob) fp tn Ss σ0 i H s1 → CRel acc s.heap → (∀ b ∈ Ss, s1.heap.get? b = s.heap.get? b) → Stp acc x H Nx → g < s1.gens.size →
      (∀ s' acc', Slp Ss s1 s' → CRel acc' s'.heap → Nx acc' H → ∃ n', n = n' + 1 ∧ gs'.Goes (model X.prog X.w) A.in1 (RG CRel Fin (M.cx A.in1) (a, gob) Ss σ0) (YG CRel Stp (M.cx A.in1) (a, gob) fp tn Ss σ0) n' (.send .none) s') → Qo (some v) (s1.setGen g gs'))
    (hP : ∀ s1 h', RGp CRel Fin (M.cx A.in1) (a, gob) Ss σ0 (s.setGen g .running) s1 → (∀ b o, s1.heap.get? b = some o → h'.get? b = some o) → Qo none { s1.setGen g .finished with heap := h' }) :
    wpAny (model X.prog X.w) A (pyNext (.ref a)) Qo E s := by
  have hgl : g < s.gens.size := (Array.getElem?_eq_some_iff.mp hgs).1
  refine wpAny_mono (wpAny_gsz (n := g + 1) hgl (wpAny_pyNext_genexpQ (n := n) (P := fun _ => RGp CRel Fin (M.cx A.in1) (a, gob) Ss σ0) (Y := YG CRel Stp (M.cx A.in1) (a, gob) fp tn Ss σ0) (Q := fun r s' => g + 1 ≤ s'.gens.size → Qo r s') (E := fun e s' => g + 1 ≤ s'.gens.size → E e s') hh hl hdp (M.isGen hG) hgs hgo (fun v s1 gs' hb hv hsz => ?_) (fun s1 hp h' hk _ => hP s1 h' hp hk))) (fun _ _ z => z) (fun _ _ z => z)
  obtain ⟨i, x, acc, H, Nx, rx, st, cr, ks, sp, kap⟩ := hv
  have hsz1 : g < s1.gens.size := by
    have q : (s1.setGen g gs').gens.size = s1.gens.size := setGen_size _ _ _
    omega
  refine hY v s1 gs' i x acc H Nx hb rx st cr ks sp hsz1 fun s' acc' sl cr' nx => ?_
  have z := kap s' acc' sl cr' nx
  cases n with
  | zero => exact z.elim
  | succ n' => exact ⟨n', rfl, z⟩
end
end GX

namespace GX
open PySem PySem.Spec PyProof.Rows L2 GenW
def stAll (Q : VK) : Stps Unit := fun _ y H N => ∃ b, y = .bl b ∧ if b = true then N () H else Q (.bl false) H
def fiAll (Q : VK) : Unit → Hp → Prop := fun _ H => Q (.bl true) H
def stAny (Q : VK) : Stps Unit := fun _ y H N => ∃ b, y = .bl b ∧ if b = true then Q (.bl true) H else N () H
def fiAny (Q : VK) : Unit → Hp → Prop := fun _ H => Q (.bl false) H
def stSum (Q : VK) : Stps Int := fun acc y H N => ∃ i, y = .int i ∧ N (acc + i) H
def fiSum (Q : VK) : Int → Hp → Prop := fun acc H => Q (.int acc) H
def crU : Unit → Heap → Prop := fun _ _ => True
abbrev lstO (xs : Array Value) (c : Nat) : Obj := { cls := .type "list", dict := none, data := .seq xs c, slots := #[] }
def crSum (S : Addr) : Int → Heap → Prop := fun acc h => ∃ t c, h.get? S = some (lstO #[.int acc t] c)
section
variable {X : Cx} {pins : List (Addr × Obj)} {σ : L2.St} {tg elt iter : Expr} {ifs : List Expr} {scope : Scope} {gpos : Pos} {own : List (Str × Nat)} {J : It} {code : Value} {H3 : Hp} {s3 : Shared} {it : Addr} {fp : List Addr} {tn : Nat → Heap → Prop} {a : Addr} {g : Nat} {gob : Obj} {s5 : Shared}
theorem gst_get {Xg : Cx} {gp : Addr × Obj} {fp : List Addr} {tn : Nat → Heap → Prop} {Ss : List Addr} {σ0 : L2.St} {i : Nat} {H : Hp} {s : Shared} (h : GSt Xg gp fp tn Ss σ0 i H s) : s.heap.get? gp.1 = some gp.2 ∧ s.heap.NoLimit ∧ AllBare s.gens ∧ ∀ b ∈ Ss, H b = none := by
  obtain ⟨cp, ecp, I, _, _⟩ := h
  refine ⟨(I.pin gp (List.mem_append_right _ (List.mem_cons_self ..))).1, I.nolimit, I.bare, fun b hb => ?_⟩
  rw [← ecp] at hb
  obtain ⟨p, hp, rfl⟩ := List.mem_map.mp hb
  exact (I.pin p (List.mem_append_right _ (List.mem_cons_of_mem _ hp))).2.1
theorem Made.all_loop (M : Made X pins σ tg elt iter ifs scope gpos own J code H3 s3 it fp tn a g gob s5) {A : Around} {σ0 : L2.St} {R : Result → Shared → Prop} {Q : VK} (hh : A.handled = none) (hdp : A.depth < recursionLimit)
    (hret : ∀ v u H s', Inv X pins σ H s' → RelV v u → Q v H → R (.ok (.ret u)) s') : ∀ (n : Nat) (s : Shared) (gs : GenState), s.heap.get? a = some gob → s.heap.NoLimit → s.gens[g]? = some gs →
    gs.Goes (model X.prog X.w) A.in1.in1 (RG crU (fiAll Q) (M.cx A.in1.in1) (a, gob) [] σ0) (YG crU (stAll Q) (M.cx A.in1.in1) (a, gob) fp tn [] σ0) n (.send .none) (s.setGen g .running) →
    codeAny (model X.prog X.w) A (.builtin "all.loop" ⟨[.ref a], []⟩) R s := by
  intro n
  induction n with
  | zero =>
    intro s gs hG hl hgs hgo
    refine codeAny_builtin F.entry_all_loop ?_
    rw [Around.under_plainId F.plain_all_loop _]
    show wpAny _ A.in1 (pyNext (.ref a) >>= _) _ _ s
    refine wpAny_bind (M.next (A := A.in1) hh hdp hG hl hgs hgo (fun v s1 gs' i x acc H Nx hb rx st cr ks sp hsz kap => ?_) (fun s1 h' hp hk => ?_))
    · obtain ⟨b, rfl, q⟩ := sp
      cases rx
      refine wpAny_bind (wpAny_holding (wpAny_truthy_bool ?_))
      refine wpAny_bind (wpAny_letGo ?_)
      obtain ⟨_, _, bare, _⟩ := gst_get st
      cases b with
      | true =>
        simp only [if_true] at q
        obtain ⟨n', hn, _⟩ := kap s1 () ⟨rfl, bare, fun _ _ _ e => e, fun _ h => nomatch h⟩ trivial q
        omega
      | false =>
        simp only [Bool.false_eq_true, if_false] at q ⊢
        obtain ⟨cp, _, I1, _, _⟩ := st
        exact wpAny_bind (wpAny_rule (wpAny_pure (hret (.bl false) _ H _ (M.back I1 rfl (allBare_setGen bare hb) fun _ _ e => e) rfl q)))
    · obtain ⟨acc, H, cp, _, I1, _, _, q⟩ := hp
      exact wpAny_bind (wpAny_rule (wpAny_pure (hret (.bl true) _ H _ (M.back I1 rfl (allBare_setGen I1.bare rfl) hk) rfl q)))
  | succ n ih =>
    intro s gs hG hl hgs hgo
    refine codeAny_builtin F.entry_all_loop ?_
    rw [Around.under_plainId F.plain_all_loop _]
    show wpAny _ A.in1 (pyNext (.ref a) >>= _) _ _ s
    refine wpAny_bind (M.next (A := A.in1) hh hdp hG hl hgs hgo (fun v s1 gs' i x acc H Nx hb rx st cr ks sp hsz kap => ?_) (fun s1 h' hp hk => ?_))
    · obtain ⟨b, rfl, q⟩ := sp
      cases rx
      refine wpAny_bind (wpAny_holding (wpAny_truthy_bool ?_))
      refine wpAny_bind (wpAny_letGo ?_)
      obtain ⟨eG, nl, bare, _⟩ := gst_get st
      cases b with
      | true =>
        simp only [if_true] at q ⊢
        obtain ⟨n', hn, go'⟩ := kap ((s1.setGen g gs').setGen g .running) () ⟨rfl, allBare_setGen (s := s1.setGen g gs') (allBare_setGen bare hb) rfl, fun _ _ _ e => e, fun _ h => nomatch h⟩ trivial q
        obtain rfl : n' = n := by omega
        exact wpAny_pure ⟨plainId_quiet F.plain_all_loop _, ih _ gs' eG nl (setGen_at hsz) go'⟩
      | false =>
        simp only [Bool.false_eq_true, if_false] at q ⊢
        obtain ⟨cp, _, I1, _, _⟩ := st
        exact wpAny_bind (wpAny_rule (wpAny_pure (hret (.bl false) _ H _ (M.back I1 rfl (allBare_setGen bare hb) fun _ _ e => e) rfl q)))
    · obtain ⟨acc, H, cp, _, I1, _, _, q⟩ := hp
      exact wpAny_bind (wpAny_rule (wpAny_pure (hret (.bl true) _ H _ (M.back I1 rfl (allBare_setGen I1.bare rfl) hk) rfl q)))
theorem Made.any_loop (M : Made X pins σ tg elt iter ifs scope gpos own J code H3 s3 it fp tn a g gob s5) {A : Around} {σ0 : L2.St} {R : Result → Shared → Prop} {Q : VK} (hh : A.handled = none) (hdp : A.depth < recursionLimit)
    (hret : ∀ v u H s', Inv X pins σ H s' → RelV v u → Q v H → R (.ok (.ret u)) s') : ∀ (n : Nat) (s : Shared) (gs : GenState), s.heap.get? a = some gob → s.heap.NoLimit → s.gens[g]? = some gs →
    gs.Goes (model X.prog X.w) A.in1.in1 (RG crU (fiAny Q) (M.cx A.in1.in1) (a, gob) [] σ0) (YG crU (stAny Q) (M.cx A.in1.in1) (a, gob) fp tn [] σ0) n (.send .none) (s.setGen g .running) →
    codeAny (model X.prog X.w) A (.builtin "any.loop" ⟨[.ref a], []⟩) R s := by
  intro n
  induction n with
  | zero =>
    intro s gs hG hl hgs hgo
    refine codeAny_builtin F.entry_any_loop ?_
    rw [Around.under_plainId F.plain_any_loop _]
    show wpAny _ A.in1 (pyNext (.ref a) >>= _) _ _ s
    refine wpAny_bind (M.next (A := A.in1) hh hdp hG hl hgs hgo (fun v s1 gs' i x acc H Nx hb rx st cr ks sp hsz kap => ?_) (fun s1 h' hp hk => ?_))
    · obtain ⟨b, rfl, q⟩ := sp
      cases rx
      refine wpAny_bind (wpAny_holding (wpAny_truthy_bool ?_))
      refine wpAny_bind (wpAny_letGo ?_)
      obtain ⟨_, _, bare, _⟩ := gst_get st
      cases b with
      | false =>
        simp only [Bool.false_eq_true, if_false] at q
        obtain ⟨n', hn, _⟩ := kap s1 () ⟨rfl, bare, fun _ _ _ e => e, fun _ h => nomatch h⟩ trivial q
        omega
      | true =>
        simp only [if_true] at q ⊢
        obtain ⟨cp, _, I1, _, _⟩ := st
        exact wpAny_bind (wpAny_rule (wpAny_pure (hret (.bl true) _ H _ (M.back I1 rfl (allBare_setGen bare hb) fun _ _ e => e) rfl q)))
    · obtain ⟨acc, H, cp, _, I1, _, _, q⟩ := hp
      exact wpAny_bind (wpAny_rule (wpAny_pure (hret (.bl false) _ H _ (M.back I1 rfl (allBare_setGen I1.bare rfl) hk) rfl q)))
  | succ n ih =>
    intro s gs hG hl hgs hgo
    refine codeAny_builtin F.entry_any_loop ?_
    rw [Around.under_plainId F.plain_any_loop _]
    show wpAny _ A.in1 (pyNext (.ref a) >>= _) _ _ s
    refine wpAny_bind (M.next (A := A.in1) hh hdp hG hl hgs hgo (fun v s1 gs' i x acc H Nx hb rx st cr ks sp hsz kap => ?_) (fun s1 h' hp hk => ?_))
    · obtain ⟨b, rfl, q⟩ := sp
      cases rx
      refine wpAny_bind (wpAny_holding (wpAny_truthy_bool ?_))
      refine wpAny_bind (wpAny_letGo ?_)
      obtain ⟨eG, nl, bare, _⟩ := gst_get st
      cases b with
      | false =>
        simp only [Bool.false_eq_true, if_false] at q ⊢
        obtain ⟨n', hn, go'⟩ := kap ((s1.setGen g gs').setGen g .running) () ⟨rfl, allBare_setGen (s := s1.setGen g gs') (allBare_setGen bare hb) rfl, fun _ _ _ e => e, fun _ h => nomatch h⟩ trivial q
        obtain rfl : n' = n := by omega
        exact wpAny_pure ⟨plainId_quiet F.plain_any_loop _, ih _ gs' eG nl (setGen_at hsz) go'⟩
      | true =>
        simp only [if_true] at q ⊢
        obtain ⟨cp, _, I1, _, _⟩ := st
        exact wpAny_bind (wpAny_rule (wpAny_pure (hret (.bl true) _ H _ (M.back I1 rfl (allBare_setGen bare hb) fun _ _ e => e) rfl q)))
    · obtain ⟨acc, H, cp, _, I1, _, _, q⟩ := hp
      exact wpAny_bind (wpAny_rule (wpAny_pure (hret (.bl false) _ H _ (M.back I1 rfl (allBare_setGen I1.bare rfl) hk) rfl q)))
/-- the consumer has written its list -/
theorem slp_upd {S : Addr} {s1 : Shared} {g : Nat} {gs' gs2 : GenState} {f : Obj → Obj} {o : Obj} {tk : Nat} (bare : AllBare s1.gens) (hb : gs'.bare = true) (hb2 : gs2.bare = true) (eS : (s1.heap.update S f).get? S = some o) (nc : ∀ v, o.data ≠ .cell v) :
    Slp [S] s1 (({ s1.setGen g gs' with heap := s1.heap.update S f, toks := tk } : Shared).setGen g gs2) where
  os := rfl
  bare := allBare_setGen (s := { s1.setGen g gs' with heap := s1.heap.update S f, toks := tk }) (allBare_setGen (s := s1) bare hb) hb2
  keep := fun b o hb e => (Heap.get?_update_other _ _ (fun z => hb (by rw [z]; exact List.mem_singleton.mpr rfl))).trans e
  own := fun b hb => by rw [List.mem_singleton.mp hb]; exact ⟨o, eS, nc⟩
theorem Made.sum_loop (M : Made X pins σ tg elt iter ifs scope gpos own J code H3 s3 it fp tn a g gob s5) {A : Around} {σ0 : L2.St} {R : Result → Shared → Prop} {Q : VK} {S : Addr} (hh : A.handled = none) (hdp : A.depth < recursionLimit) (hSa : a ≠ S) (hSc : cStatics ≠ S)
    (hret : ∀ v u H s', Inv X pins σ H s' → RelV v u → Q v H → R (.ok (.ret u)) s') : ∀ (n : Nat) (s : Shared) (gs : GenState) (acc : Int) (t : Tok) (c : Nat) (st : Int), (st = 0 ∨ st = 2) → s.heap.get? a = some gob → s.heap.NoLimit → s.gens[g]? = some gs → s.heap.get? S = some (lstO #[.int acc t] c) →
    gs.Goes (model X.prog X.w) A.in1.in1 (RG (crSum S) (fiSum Q) (M.cx A.in1.in1) (a, gob) [S] σ0) (YG (crSum S) (stSum Q) (M.cx A.in1.in1) (a, gob) fp tn [S] σ0) n (.send .none) (s.setGen g .running) →
    codeAny (model X.prog X.w) A (.builtin "sum.loop" ⟨[.ref a, .ref S, rawInt st, rawInt 0], []⟩) R s := by
  have same : ∀ {acc acc' : Int} {t : Tok} {c : Nat} {h : Heap}, h.get? S = some (lstO #[.int acc t] c) → crSum S acc' h → acc' = acc := fun {acc acc' t c h} e ⟨t', c', e'⟩ => by
    rw [e] at e'
    cases e'
    rfl
  intro n
  induction n with
  | zero =>
    intro s gs acc t c st hst hG hl hgs eS hgo
    refine codeAny_builtin F.entry_sum_loop ?_
    rw [Around.under_plainId F.plain_sum_loop _]
    show wpAny _ A.in1 (seqItems? (.ref S) >>= _) _ _ s
    refine wpAny_bind (wpAny_seqItems eS rfl ?_)
    show wpAny _ A.in1 (tryCatch (pyNext (.ref a)) _ >>= _) _ _ s
    refine wpAny_bind (wpAny_tryCatch (M.next (A := A.in1) hh hdp hG hl hgs hgo (fun v s1 gs' i x acc' H Nx hb rx st' cr ks sp hsz kap => ?_) (fun s1 h' hp hk => ?_)))
    · obtain ⟨j, rfl, q⟩ := sp
      obtain ⟨eG, nl, bare, _⟩ := gst_get st'
      have e1 : s1.heap.get? S = some (lstO #[.int acc t] c) := by rw [ks S (List.mem_singleton.mpr rfl)]; exact eS
      have e2 := Heap.get?_update_self (Obj.mapSeq fun _ => #[Value.int (acc' + j) 0]) e1 rfl
      obtain ⟨n', hn, _⟩ := kap _ (acc' + j) (slp_upd (g := g) (gs' := .running) (gs2 := .running) (tk := 0) bare rfl rfl e2 (fun v z => by cases z)) ⟨0, _, e2⟩ q
      omega
    · obtain ⟨acc', H, cp, _, I1, cr, ks, q⟩ := hp
      rw [same eS cr] at q
      exact wpAny_pure (hret (.int acc) _ H _ (M.back I1 rfl (allBare_setGen I1.bare rfl) hk) ⟨t, rfl⟩ q)
  | succ n ih =>
    intro s gs acc t c st hst hG hl hgs eS hgo
    refine codeAny_builtin F.entry_sum_loop ?_
    rw [Around.under_plainId F.plain_sum_loop _]
    show wpAny _ A.in1 (seqItems? (.ref S) >>= _) _ _ s
    refine wpAny_bind (wpAny_seqItems eS rfl ?_)
    show wpAny _ A.in1 (tryCatch (pyNext (.ref a)) _ >>= _) _ _ s
    refine wpAny_bind (wpAny_tryCatch (M.next (A := A.in1) hh hdp hG hl hgs hgo (fun v s1 gs' i x acc' H Nx hb rx st' cr ks sp hsz kap => ?_) (fun s1 h' hp hk => ?_)))
    · obtain ⟨j, rfl, q⟩ := sp
      obtain ⟨tj, rfl⟩ := rx
      rw [same eS cr] at q
      obtain ⟨eG, nl, bare, _⟩ := gst_get st'
      have e1 : s1.heap.get? S = some (lstO #[.int acc t] c) := by rw [ks S (List.mem_singleton.mpr rfl)]; exact eS
      have on : ∀ (s2 : Shared) (tk : Tok) (c2 : Nat) (st2 : Int), (st2 = 0 ∨ st2 = 2) → s2.os = s1.os → AllBare s2.gens → s2.gens[g]? = some gs' → (∀ b o, b ≠ S → s1.heap.get? b = some o → s2.heap.get? b = some o) → s2.heap.get? S = some (lstO #[.int (acc + j) tk] c2) →
          codeAny (model X.prog X.w) A (.builtin "sum.loop" ⟨[.ref a, .ref S, rawInt st2, rawInt 0], []⟩) R s2 := fun s2 tk c2 st2 h2 ho hbb hg2 kp e2 => by
        obtain ⟨n', hn, go'⟩ := kap (s2.setGen g .running) (acc + j) ⟨ho, allBare_setGen hbb rfl, fun b o hb e => kp b o (fun z => hb (by rw [z]; exact List.mem_singleton.mpr rfl)) e, fun b hb => by rw [List.mem_singleton.mp hb]; exact ⟨_, e2, fun v z => by cases z⟩⟩ ⟨tk, c2, e2⟩ q
        obtain rfl : n' = n := by omega
        refine ih s2 gs' (acc + j) tk c2 st2 h2 (kp a _ hSa eG) ?_ hg2 e2 go'
        obtain ⟨mc, hns, hnn⟩ := nl
        exact ⟨mc, hns.at' fun o e => kp _ o hSc e, hnn⟩
      rcases hst with rfl | rfl
      · show wpAny _ A.in1 (if (_ : Bool) = true then (mkInt (acc + j) >>= _) else _) _ _ _
        split
        · refine wpAny_bind (wpAny_mkInt ?_)
          show wpAny _ A.in1 (updateSeq S (fun _ => #[.int (acc + j) s1.toks]) >>= _) _ _ _
          refine wpAny_bind ?_
          refine wpAny_updateSeq e1 rfl (wpAny_pure ⟨plainId_quiet F.plain_sum_loop _, ?_⟩)
          exact on _ _ _ 0 (.inl rfl) rfl (allBare_setGen bare hb) (setGen_at hsz) (fun b o hb e => (Heap.get?_update_other _ _ (Ne.symm hb)).trans e) (Heap.get?_update_self _ e1 rfl)
        · refine wpAny_bind (wpAny_rule ?_)
          refine wpAny_bind (wpAny_attempt (wpAny_holding (wpAny_add_int ?_)))
          show wpAny _ A.in1 (updateSeq S (fun _ => #[.int (acc + j) s1.toks]) >>= _) _ _ _
          refine wpAny_bind (wpAny_updateSeq e1 rfl ?_)
          have e2 := Heap.get?_update_self (Obj.mapSeq fun _ => #[Value.int (acc + j) s1.toks]) e1 rfl
          refine wpAny_bind (wpAny_letGo ?_)
          refine wpAny_bind (wpAny_updateSeq e2 rfl (wpAny_pure ⟨plainId_quiet F.plain_sum_loop _, ?_⟩))
          exact on _ _ _ 2 (.inr rfl) rfl (allBare_setGen bare hb) (setGen_at hsz) (fun b o hb e => (Heap.get?_update_other _ _ (Ne.symm hb)).trans ((Heap.get?_update_other _ _ (Ne.symm hb)).trans e)) (Heap.get?_update_self _ e2 rfl)
      · show wpAny _ A.in1 ((holding [Value.int j tj] (binaryOp .Add (.int acc t) (.int j tj))).attempt >>= _) _ _ _
        refine wpAny_bind (wpAny_attempt (wpAny_holding (wpAny_add_int ?_)))
        show wpAny _ A.in1 (updateSeq S (fun _ => #[.int (acc + j) s1.toks]) >>= _) _ _ _
        refine wpAny_bind (wpAny_updateSeq e1 rfl ?_)
        have e2 := Heap.get?_update_self (Obj.mapSeq fun _ => #[Value.int (acc + j) s1.toks]) e1 rfl
        refine wpAny_bind (wpAny_letGo ?_)
        refine wpAny_bind (wpAny_updateSeq e2 rfl (wpAny_pure ⟨plainId_quiet F.plain_sum_loop _, ?_⟩))
        exact on _ _ _ 2 (.inr rfl) rfl (allBare_setGen bare hb) (setGen_at hsz) (fun b o hb e => (Heap.get?_update_other _ _ (Ne.symm hb)).trans ((Heap.get?_update_other _ _ (Ne.symm hb)).trans e)) (Heap.get?_update_self _ e2 rfl)
    · obtain ⟨acc', H, cp, _, I1, cr, ks, q⟩ := hp
      rw [same eS cr] at q
      exact wpAny_pure (hret (.int acc) _ H _ (M.back I1 rfl (allBare_setGen I1.bare rfl) hk) ⟨t, rfl⟩ q)
end
end GX

namespace GX
open PySem PySem.Spec PyProof.Rows L2 GenW
def tGx {α : Type} (a0 : α) (Stp : VK → Stps α) (Fin : VK → α → Hp → Prop) (tc : TC) (ti : TI) (g : TG) (tt : TT) (te : Value → TE) (vs : List Nat) : TE := fun σ H Q => ti σ H fun J H1 => tc σ H1 fun code H2 => ∃ W : Nat → Nat → α → Hp → Prop, (∃ m, W 0 m a0 H2) ∧ TurnsR (Stp Q) (Fin Q) J g tt (te code) vs σ W
/-- a rule that holds in the expression's frame, whichever it is -/
abbrev Fam (X : Cx) (k : Nat) (scope : Scope) (Pp : Cx → Value → Prop) : Prop := ∀ (B : Around) (s : Shared) (H : Hp) (code : Value) (fp : List Addr), Room k B → B.guards = X.A.guards → Pp (gcx X B s H scope (gEnv X scope s code) fp) code
def crMax (S : Addr) : Option Int → Heap → Prop
  | none, h => ∃ c, h.get? S = some (lstO #[] c)
  | some m, h => ∃ t c, h.get? S = some (lstO #[.int m t, .int m t] c)
def stMax (Q : VK) : Stps (Option Int) := fun acc y H N => ∃ i, y = .int i ∧ N (some (match acc with | none => i | some j => if j < i then i else j)) H
def stMin (Q : VK) : Stps (Option Int) := fun acc y H N => ∃ i, y = .int i ∧ N (some (match acc with | none => i | some j => if i < j then i else j)) H
def fiMax (Q : VK) : Option Int → Hp → Prop := fun acc H => ∃ m, acc = some m ∧ Q (.int m) H
section
variable {X : Cx} {pins : List (Addr × Obj)} {σ : L2.St} {tg elt iter : Expr} {ifs : List Expr} {scope : Scope} {gpos : Pos} {own : List (Str × Nat)} {J : It} {code : Value} {H3 : Hp} {s3 : Shared} {it : Addr} {fp : List Addr} {tn : Nat → Heap → Prop} {a : Addr} {g : Nat} {gob : Obj} {s5 : Shared}
theorem crMax_none {S : Addr} {acc : Option Int} {h : Heap} {c : Nat} (e : h.get? S = some (lstO #[] c)) (x : crMax S acc h) : acc = none := by
  cases acc with
  | none => rfl
  | some m =>
    obtain ⟨t, c', e'⟩ := x
    rw [e] at e'
    cases e'
theorem crMax_some {S : Addr} {acc : Option Int} {h : Heap} {c : Nat} {m : Int} {t : Tok} (e : h.get? S = some (lstO #[.int m t, .int m t] c)) (x : crMax S acc h) : acc = some m := by
  cases acc with
  | none =>
    obtain ⟨c', e'⟩ := x
    rw [e] at e'
    cases e'
  | some m' =>
    obtain ⟨t', c', e'⟩ := x
    rw [e] at e'
    cases e'
    rfl
theorem Made.max_loop (M : Made X pins σ tg elt iter ifs scope gpos own J code H3 s3 it fp tn a g gob s5) {A : Around} {σ0 : L2.St} {R : Result → Shared → Prop} {Q : VK} {S : Addr} (hh : A.handled = none) (hdp : A.depth < recursionLimit) (hSa : a ≠ S) (hSc : cStatics ≠ S) (hS5 : s3.heap.objs.size ≤ S)
    (hret : ∀ v u H s', Inv X pins σ H s' → RelV v u → Q v H → R (.ok (.ret u)) s') : ∀ (n : Nat) (s : Shared) (gs : GenState) (c : Nat), s.heap.get? a = some gob → s.heap.NoLimit → s.gens[g]? = some gs →
    (s.heap.get? S = some (lstO #[] c) ∨ ∃ m t, s.heap.get? S = some (lstO #[.int m t, .int m t] c)) →
    gs.Goes (model X.prog X.w) A.in1.in1 (RG (crMax S) (fiMax Q) (M.cx A.in1.in1) (a, gob) [S] σ0) (YG (crMax S) (stMax Q) (M.cx A.in1.in1) (a, gob) fp tn [S] σ0) n (.send .none) (s.setGen g .running) →
    codeAny (model X.prog X.w) A (.builtin "max.loop" ⟨[.ref a, .none, .ref S], []⟩) R s := by
  have hname : (toString "max" ++ toString ".loop" : String) = "max.loop" := by decide
  intro n
  induction n with
  | zero =>
    intro s gs c hG hl hgs eS hgo
    refine codeAny_builtin F.entry_max_loop ?_
    rw [Around.under_plainId F.plain_max_loop _]
    show wpAny _ A.in1 (seqItems? (.ref S) >>= _) _ _ s
    have dead : ∀ {o : Obj} {v : Value} {s1 : Shared} {i : Nat} {x : V} {acc : Option Int} {H : Hp} {Nx : Option Int → Hp → Prop} {gs' : GenState}, (∃ xs c2, o = lstO xs c2) → s1.heap.get? S = some o → GSt (M.cx A.in1.in1) (a, gob) fp tn [S] σ0 i H s1 → stMax Q acc x H Nx →
        (∀ s' acc', Slp [S] s1 s' → crMax S acc' s'.heap → Nx acc' H → ∃ n', 0 = n' + 1 ∧ gs'.Goes (model X.prog X.w) A.in1.in1 (RG (crMax S) (fiMax Q) (M.cx A.in1.in1) (a, gob) [S] σ0) (YG (crMax S) (stMax Q) (M.cx A.in1.in1) (a, gob) fp tn [S] σ0) n' (.send .none) s') → False := fun {o v s1 i x acc H Nx gs'} ho e1 st' sp kap => by
      obtain ⟨j, rfl, q⟩ := sp
      obtain ⟨xs, c2, rfl⟩ := ho
      obtain ⟨eG, nl, bare, _⟩ := gst_get st'
      generalize (match acc with | none => j | some k => if k < j then j else k) = m' at q
      have e2 := Heap.get?_update_self (Obj.mapSeq fun _ => #[Value.int m' 0, Value.int m' 0]) e1 rfl
      obtain ⟨n', hn, _⟩ := kap _ (some m') (slp_upd (g := g) (gs' := .running) (gs2 := .running) (tk := 0) bare rfl rfl e2 (fun v z => by cases z)) ⟨0, _, e2⟩ q
      omega
    rcases eS with eS | ⟨m, t, eS⟩
    · refine wpAny_bind (wpAny_seqItems eS rfl ?_)
      show wpAny _ A.in1 (tryCatch (pyNext (.ref a)) _ >>= _) _ _ s
      refine wpAny_bind (wpAny_tryCatch (M.next (A := A.in1) hh hdp hG hl hgs hgo (fun v s1 gs' i x acc' H Nx hb rx st' cr ks sp hsz kap => ?_) (fun s1 h' hp hk => ?_)))
      · exact (dead (v := v) ⟨_, _, rfl⟩ (by rw [ks S (List.mem_singleton.mpr rfl)]; exact eS) st' sp kap).elim
      · obtain ⟨acc', H, cp, _, I1, cr, ks, m, em, q⟩ := hp
        have := crMax_none (h := s.heap) eS cr
        rw [this] at em
        cases em
    · refine wpAny_bind (wpAny_seqItems eS rfl ?_)
      show wpAny _ A.in1 (tryCatch (pyNext (.ref a)) _ >>= _) _ _ s
      refine wpAny_bind (wpAny_tryCatch (M.next (A := A.in1) hh hdp hG hl hgs hgo (fun v s1 gs' i x acc' H Nx hb rx st' cr ks sp hsz kap => ?_) (fun s1 h' hp hk => ?_)))
      · exact (dead (v := v) ⟨_, _, rfl⟩ (by rw [ks S (List.mem_singleton.mpr rfl)]; exact eS) st' sp kap).elim
      · obtain ⟨acc', H, cp, ecp, I1, cr, ks, m', em, q⟩ := hp
        have := crMax_some (h := s.heap) eS cr
        rw [this] at em
        cases em
        have e1 : h'.get? S = some (lstO #[.int m t, .int m t] c) := hk _ _ (by rw [ks S (List.mem_singleton.mpr rfl)]; exact eS)
        have nS : H S = none := by
          have hm : S ∈ cp.map (·.1) := by rw [ecp]; exact List.mem_singleton.mpr rfl
          obtain ⟨p, hp, e⟩ := List.mem_map.mp hm
          rw [← e]
          exact (I1.pin p (List.mem_append_right _ (List.mem_cons_of_mem _ hp))).2.1
        show wpAny _ A.in1 (updateSeq S (fun _ => #[]) >>= _) _ _ _
        refine wpAny_bind ?_
        refine wpAny_updateSeq e1 rfl (wpAny_bind (wpAny_letGo (wpAny_pure ?_)))
        have J1 := M.back (s' := { s1.setGen g .finished with heap := h' }) I1 rfl (allBare_setGen I1.bare rfl) hk
        obtain ⟨f0, f1, f2, f3, f4, f5⟩ := M.inv.fpOk hS5 nS
        exact hret (.int m) _ H _ (J1.turned (t' := s1.toks) (fun b o hb e => (Heap.get?_update_other _ _ (Ne.symm hb)).trans e) f0 f1 f3 f4 f5) ⟨t, rfl⟩ q
  | succ n ih =>
    intro s gs c hG hl hgs eS hgo
    refine codeAny_builtin F.entry_max_loop ?_
    rw [Around.under_plainId F.plain_max_loop _]
    show wpAny _ A.in1 (seqItems? (.ref S) >>= _) _ _ s
    rcases eS with eS | ⟨m, t, eS⟩
    · refine wpAny_bind (wpAny_seqItems eS rfl ?_)
      show wpAny _ A.in1 (tryCatch (pyNext (.ref a)) _ >>= _) _ _ s
      refine wpAny_bind (wpAny_tryCatch (M.next (A := A.in1) hh hdp hG hl hgs hgo (fun v s1 gs' i x acc' H Nx hb rx st' cr ks sp hsz kap => ?_) (fun s1 h' hp hk => ?_)))
      · obtain ⟨j, rfl, q⟩ := sp
        obtain ⟨tj, rfl⟩ := rx
        rw [crMax_none (h := s.heap) eS cr] at q
        obtain ⟨eG, nl, bare, _⟩ := gst_get st'
        have e1 : s1.heap.get? S = some (lstO #[] c) := by rw [ks S (List.mem_singleton.mpr rfl)]; exact eS
        show wpAny _ A.in1 (updateSeq S (fun _ => #[.int j tj, .int j tj]) >>= _) _ _ _
        refine wpAny_bind ?_
        refine wpAny_updateSeq e1 rfl ?_
        have e2 := Heap.get?_update_self (Obj.mapSeq fun _ => #[Value.int j tj, Value.int j tj]) e1 rfl
        rw [hname]
        refine wpAny_pure ⟨plainId_quiet F.plain_max_loop _, ?_⟩
        obtain ⟨n', hn, go'⟩ := kap _ (some j) (slp_upd (g := g) (gs' := gs') (gs2 := .running) (tk := s1.toks) bare hb rfl e2 (fun v z => by cases z)) ⟨tj, _, e2⟩ q
        obtain rfl : n' = n := by omega
        refine ih { s1.setGen g gs' with heap := s1.heap.update S (Obj.mapSeq fun _ => #[Value.int j tj, Value.int j tj]) } gs' _ ((Heap.get?_update_other _ _ (Ne.symm hSa)).trans eG) ?_ (setGen_at hsz) (.inr ⟨j, tj, e2⟩) go'
        obtain ⟨mc, hns, hnn⟩ := nl
        exact ⟨mc, hns.at' fun o e => (Heap.get?_update_other _ _ (Ne.symm hSc)).trans e, hnn⟩
      · obtain ⟨acc', H, cp, _, I1, cr, ks, m, em, q⟩ := hp
        have := crMax_none (h := s.heap) eS cr
        rw [this] at em
        cases em
    · refine wpAny_bind (wpAny_seqItems eS rfl ?_)
      show wpAny _ A.in1 (tryCatch (pyNext (.ref a)) _ >>= _) _ _ s
      refine wpAny_bind (wpAny_tryCatch (M.next (A := A.in1) hh hdp hG hl hgs hgo (fun v s1 gs' i x acc' H Nx hb rx st' cr ks sp hsz kap => ?_) (fun s1 h' hp hk => ?_)))
      · obtain ⟨j, rfl, q⟩ := sp
        obtain ⟨tj, rfl⟩ := rx
        rw [crMax_some (h := s.heap) eS cr] at q
        obtain ⟨eG, nl, bare, _⟩ := gst_get st'
        have e1 : s1.heap.get? S = some (lstO #[.int m t, .int m t] c) := by rw [ks S (List.mem_singleton.mpr rfl)]; exact eS
        show wpAny _ A.in1 (tryCatch (holding [.int j tj, .int j tj] (richCompare .Gt (.int j tj) (.int m t) >>= _)) _ >>= _) _ _ _
        refine wpAny_bind (wpAny_tryCatch (wpAny_holding (wpAny_bind (P.gt_int ?_))))
        refine wpAny_bind (wpAny_holding (wpAny_truthy_bool ?_))
        refine wpAny_bind (wpAny_letGo (wpAny_pure ?_))
        by_cases hb' : m < j
        · rw [decide_eq_true hb']
          simp only [if_true]
          have q : Nx (some j) H := by
            have z : Nx (some (if m < j then j else m)) H := q
            rw [if_pos hb'] at z
            exact z
          refine wpAny_bind ?_
          refine wpAny_updateSeq e1 rfl (wpAny_bind (wpAny_letGo ?_))
          have e2 := Heap.get?_update_self (Obj.mapSeq fun _ => #[Value.int j tj, Value.int j tj]) e1 rfl
          rw [hname]
          refine wpAny_pure ⟨plainId_quiet F.plain_max_loop _, ?_⟩
          obtain ⟨n', hn, go'⟩ := kap _ (some j) (slp_upd (g := g) (gs' := gs') (gs2 := .running) (tk := s1.toks) bare hb rfl e2 (fun v z => by cases z)) ⟨tj, _, e2⟩ q
          obtain rfl : n' = n := by omega
          refine ih { s1.setGen g gs' with heap := s1.heap.update S (Obj.mapSeq fun _ => #[Value.int j tj, Value.int j tj]) } gs' _ ((Heap.get?_update_other _ _ (Ne.symm hSa)).trans eG) ?_ (setGen_at hsz) (.inr ⟨j, tj, e2⟩) go'
          obtain ⟨mc, hns, hnn⟩ := nl
          exact ⟨mc, hns.at' fun o e => (Heap.get?_update_other _ _ (Ne.symm hSc)).trans e, hnn⟩
        · rw [decide_eq_false hb']
          simp only [Bool.false_eq_true, if_false]
          have q : Nx (some m) H := by
            have z : Nx (some (if m < j then j else m)) H := q
            rw [if_neg hb'] at z
            exact z
          refine wpAny_bind (wpAny_letGo ?_)
          rw [hname]
          refine wpAny_pure ⟨plainId_quiet F.plain_max_loop _, ?_⟩
          obtain ⟨n', hn, go'⟩ := kap ((s1.setGen g gs').setGen g .running) (some m) ⟨rfl, allBare_setGen (s := s1.setGen g gs') (allBare_setGen bare hb) rfl, fun _ _ _ e => e, fun b hb => by rw [List.mem_singleton.mp hb]; exact ⟨_, e1, fun v z => by cases z⟩⟩ ⟨t, _, e1⟩ q
          obtain rfl : n' = n := by omega
          exact ih _ gs' _ eG nl (setGen_at hsz) (.inr ⟨m, t, e1⟩) go'
      · obtain ⟨acc', H, cp, ecp, I1, cr, ks, m', em, q⟩ := hp
        have := crMax_some (h := s.heap) eS cr
        rw [this] at em
        cases em
        have e1 : h'.get? S = some (lstO #[.int m t, .int m t] c) := hk _ _ (by rw [ks S (List.mem_singleton.mpr rfl)]; exact eS)
        have nS : H S = none := by
          have hm : S ∈ cp.map (·.1) := by rw [ecp]; exact List.mem_singleton.mpr rfl
          obtain ⟨p, hp, e⟩ := List.mem_map.mp hm
          rw [← e]
          exact (I1.pin p (List.mem_append_right _ (List.mem_cons_of_mem _ hp))).2.1
        show wpAny _ A.in1 (updateSeq S (fun _ => #[]) >>= _) _ _ _
        refine wpAny_bind ?_
        refine wpAny_updateSeq e1 rfl (wpAny_bind (wpAny_letGo (wpAny_pure ?_)))
        have J1 := M.back (s' := { s1.setGen g .finished with heap := h' }) I1 rfl (allBare_setGen I1.bare rfl) hk
        obtain ⟨f0, f1, f2, f3, f4, f5⟩ := M.inv.fpOk hS5 nS
        exact hret (.int m) _ H _ (J1.turned (t' := s1.toks) (fun b o hb e => (Heap.get?_update_other _ _ (Ne.symm hb)).trans e) f0 f1 f3 f4 f5) ⟨t, rfl⟩ q
end
end GX

namespace GX
open PySem PySem.Spec PyProof.Rows L2 GenW
section
variable {X : Cx} {tg elt iter : Expr} {ifs : List Expr} {scope : Scope} {gpos p pos : Pos} {own : List (Str × Nat)} {ti : TI} {tc : TC} {P0 : Addr} {k : Nat} {g' : TG} {tt : TT} {te : Value → TE}
theorem room_in {A : Around} (r : Room (k + 3) A) (e : Env) : Room k (A.in1.in1.deeper e) := ⟨r.hd, by have := r.dp; show A.depth + 1 + 3 * k + 5 < _; omega, by have := r.un; show A.units + 1 + 1 + 3 + 16 * k + 200 < _; omega⟩
theorem pe_allX (hr : Room (k + 3) X.A) (hN : X.N.Nodup) (glob : Gl X "all") (free : X.mg "all" = none) (BA : X.base.BuiltinsAt X.mg P0) (hi : PI X tg iter ti) (hpc : PC X gpos scope tc) (ok : GOk X.N X.env.scope scope own)
    (hg : Fam X k scope fun Y _ => PG Y tg g') (ht : Fam X k scope fun Y _ => PTs Y ifs tt) (he : Fam X k scope fun Y code => PE Y elt (te code)) (hs : ∀ v, genFold iter X.env v = pure v := by intro _; rfl)
    (one : starEach [.GeneratorExp elt [⟨tg, iter, ifs, 0⟩] scope gpos] X.env = [(false, eval (.GeneratorExp elt [⟨tg, iter, ifs, 0⟩] scope gpos) X.env)] := by rfl) :
    PE X (.Call (.Name "all" p) [.GeneratorExp elt [⟨tg, iter, ifs, 0⟩] scope gpos] [] pos) (tGx () stAll fiAll tc ti g' tt te (own.map (·.2))) := by
  constructor
  intro pins s σ H Q I h
  refine wpAny_Call_Name_kw (ld_blt I glob free (show bootBuiltins "all" = some (.builtin "all") by decide +kernel) (callWith_builtin1 ?_ one (by rfl)) (by decide) (by decide))
  rw [one]
  refine Calls.spliced_cons (gx_eval I hN hr hi hpc BA ok hs h fun J code H3 s3 it fp tn a g gob s5 want M => Calls.spliced_nil ?_)
  obtain ⟨W, ⟨m0, w0⟩, turn⟩ := want
  have hd : X.A.depth < recursionLimit := by have := hr.dp; omega
  have hB := M.bok (A := X.A.in1.in1) hr.hd I.ok.frames
  have I5 := M.sub _ hB
  have rm := room_in hr (gEnv X scope s3 code)
  refine call_function_tree F.kind_all F.plain_all F.entry_all (F.args_all1 _) ?_
  unfold Builtin.«all»
  refine wpAny_bind (m := oneArg "all" _) (wpAny_pure ?_)
  refine wpAny_bind (wpAny_pyIter_gen (M.isGen M.get) ?_)
  refine wpAny_pure ⟨plainId_quiet F.plain_all_loop _, M.all_loop (σ0 := wipe σ (own.map (·.2))) hr.hd hd (fun v u H s' I' r q => ⟨v, H, I', r, q⟩) (m0 + 1) s5 _ M.get I5.nolimit M.gen ?_⟩
  refine ⟨rfl, ?_⟩
  exact M.wake (A := X.A.in1.in1) (s2 := s5.setGen g .running) ok.co hr.hd I.ok.frames (hg _ _ _ _ _ rm rfl) (ht _ _ _ _ _ rm rfl) (he _ _ _ _ _ rm rfl) turn w0 (Nat.lt_succ_self _) rfl (allBare_setGen I5.bare rfl) (fun _ _ e => e) (fun _ h => nomatch h) trivial
theorem pe_anyX (hr : Room (k + 3) X.A) (hN : X.N.Nodup) (glob : Gl X "any") (free : X.mg "any" = none) (BA : X.base.BuiltinsAt X.mg P0) (hi : PI X tg iter ti) (hpc : PC X gpos scope tc) (ok : GOk X.N X.env.scope scope own)
    (hg : Fam X k scope fun Y _ => PG Y tg g') (ht : Fam X k scope fun Y _ => PTs Y ifs tt) (he : Fam X k scope fun Y code => PE Y elt (te code)) (hs : ∀ v, genFold iter X.env v = pure v := by intro _; rfl)
    (one : starEach [.GeneratorExp elt [⟨tg, iter, ifs, 0⟩] scope gpos] X.env = [(false, eval (.GeneratorExp elt [⟨tg, iter, ifs, 0⟩] scope gpos) X.env)] := by rfl) :
    PE X (.Call (.Name "any" p) [.GeneratorExp elt [⟨tg, iter, ifs, 0⟩] scope gpos] [] pos) (tGx () stAny fiAny tc ti g' tt te (own.map (·.2))) := by
  constructor
  intro pins s σ H Q I h
  refine wpAny_Call_Name_kw (ld_blt I glob free (show bootBuiltins "any" = some (.builtin "any") by decide +kernel) (callWith_builtin1 ?_ one (by rfl)) (by decide) (by decide))
  rw [one]
  refine Calls.spliced_cons (gx_eval I hN hr hi hpc BA ok hs h fun J code H3 s3 it fp tn a g gob s5 want M => Calls.spliced_nil ?_)
  obtain ⟨W, ⟨m0, w0⟩, turn⟩ := want
  have hd : X.A.depth < recursionLimit := by have := hr.dp; omega
  have hB := M.bok (A := X.A.in1.in1) hr.hd I.ok.frames
  have I5 := M.sub _ hB
  have rm := room_in hr (gEnv X scope s3 code)
  refine call_function_tree F.kind_any F.plain_any F.entry_any (F.args_any1 _) ?_
  unfold Builtin.«any»
  refine wpAny_bind (m := oneArg "any" _) (wpAny_pure ?_)
  refine wpAny_bind (wpAny_pyIter_gen (M.isGen M.get) ?_)
  refine wpAny_pure ⟨plainId_quiet F.plain_any_loop _, M.any_loop (σ0 := wipe σ (own.map (·.2))) hr.hd hd (fun v u H s' I' r q => ⟨v, H, I', r, q⟩) (m0 + 1) s5 _ M.get I5.nolimit M.gen ?_⟩
  refine ⟨rfl, ?_⟩
  exact M.wake (A := X.A.in1.in1) (s2 := s5.setGen g .running) ok.co hr.hd I.ok.frames (hg _ _ _ _ _ rm rfl) (ht _ _ _ _ _ rm rfl) (he _ _ _ _ _ rm rfl) turn w0 (Nat.lt_succ_self _) rfl (allBare_setGen I5.bare rfl) (fun _ _ e => e) (fun _ h => nomatch h) trivial
theorem pe_sumX (hr : Room (k + 3) X.A) (hN : X.N.Nodup) (glob : Gl X "sum") (free : X.mg "sum" = none) (BA : X.base.BuiltinsAt X.mg P0) (hi : PI X tg iter ti) (hpc : PC X gpos scope tc) (ok : GOk X.N X.env.scope scope own)
    (hg : Fam X k scope fun Y _ => PG Y tg g') (ht : Fam X k scope fun Y _ => PTs Y ifs tt) (he : Fam X k scope fun Y code => PE Y elt (te code)) (hs : ∀ v, genFold iter X.env v = pure v := by intro _; rfl)
    (one : starEach [.GeneratorExp elt [⟨tg, iter, ifs, 0⟩] scope gpos] X.env = [(false, eval (.GeneratorExp elt [⟨tg, iter, ifs, 0⟩] scope gpos) X.env)] := by rfl) :
    PE X (.Call (.Name "sum" p) [.GeneratorExp elt [⟨tg, iter, ifs, 0⟩] scope gpos] [] pos) (tGx 0 stSum fiSum tc ti g' tt te (own.map (·.2))) := by
  constructor
  intro pins s σ H Q I h
  refine wpAny_Call_Name_kw (ld_blt I glob free (show bootBuiltins "sum" = some (.builtin "sum") by decide +kernel) (callWith_builtin1 ?_ one (by rfl)) (by decide) (by decide))
  rw [one]
  refine Calls.spliced_cons (gx_eval I hN hr hi hpc BA ok hs h fun J code H3 s3 it fp tn a g gob s5 want M => Calls.spliced_nil ?_)
  obtain ⟨W, ⟨m0, w0⟩, turn⟩ := want
  have hd : X.A.depth < recursionLimit := by have := hr.dp; omega
  have hB := M.bok (A := X.A.in1.in1) hr.hd I.ok.frames
  have I5 := M.sub _ hB
  have rm := room_in hr (gEnv X scope s3 code)
  have hSc : cStatics < s5.heap.objs.size := let ⟨_, hn, _⟩ := I5.nolimit; hn.lt
  refine call_function_tree F.kind_sum F.plain_sum F.entry_sum (F.args_sum1 _) ?_
  unfold Builtin.«sum»
  simp only [List.length_cons, List.length_nil]
  rw [if_neg (by decide)]
  refine wpAny_bind (wpAny_of_eq (show Builtin.Builtins.bindParams "sum" ["start"] 0 { } = pure [none] from rfl) ?_)
  refine wpAny_bind (wpAny_pyIter_gen (M.isGen M.get) ?_)
  refine wpAny_bind (wpAny_mkInt ?_)
  refine wpAny_bind (wpAny_pure ?_)
  simp only [List.forIn_cons, List.forIn_nil]
  refine wpAny_bind (wpAny_bind (wpAny_bind (wpAny_isInstance (T := "int") (b := false) (typeIs_int _ _ _) PySem.sub_int_str ?_)))
  simp only [Bool.false_eq_true, if_false]
  refine wpAny_pure (wpAny_bind (wpAny_bind (wpAny_isInstance (T := "int") (b := false) (typeIs_int _ _ _) PySem.sub_int_bytes ?_)))
  simp only [Bool.false_eq_true, if_false]
  refine wpAny_pure (wpAny_bind (wpAny_bind (wpAny_isInstance (T := "int") (b := false) (typeIs_int _ _ _) PySem.sub_int_bytearray ?_)))
  simp only [Bool.false_eq_true, if_false]
  refine wpAny_pure (wpAny_pure ?_)
  refine wpAny_bind (wpAny_newObj_type ?_)
  have eS : ({ s5 with heap := s5.heap.push { cls := .type "list", data := .seq #[Value.int 0 s5.toks] }, toks := s5.toks + 1 } : Shared).heap.get? s5.heap.objs.size = some (lstO #[.int 0 s5.toks] 0) := Heap.get?_push_size _ rfl
  have kp : ∀ b o, s5.heap.get? b = some o → (s5.heap.push { cls := .type "list", data := .seq #[Value.int 0 s5.toks] }).get? b = some o := fun b o e => Heap.get?_push_of_some _ e
  have al : a < s5.heap.objs.size := Heap.lt_size M.get
  refine wpAny_pure ⟨plainId_quiet F.plain_sum_loop _, M.sum_loop (σ0 := wipe σ (own.map (·.2))) hr.hd hd (Nat.ne_of_lt al) (Nat.ne_of_lt hSc) (fun v u H s' I' r q => ⟨v, H, I', r, q⟩) (m0 + 1) _ _ 0 _ 0 0 (.inl rfl) (kp _ _ M.get) (I5.nolimit.keeps kp) M.gen eS ?_⟩
  refine ⟨rfl, ?_⟩
  refine M.wake (A := X.A.in1.in1) ok.co hr.hd I.ok.frames (hg _ _ _ _ _ rm rfl) (ht _ _ _ _ _ rm rfl) (he _ _ _ _ _ rm rfl) turn w0 (Nat.lt_succ_self _) rfl (allBare_setGen (s := { s5 with heap := _, toks := _ }) I5.bare rfl) kp (fun b hb => ?_) ⟨_, _, eS⟩
  rw [List.mem_singleton.mp hb]
  exact ⟨Nat.le_refl _, _, eS, fun v z => by cases z⟩
theorem pe_maxX (hr : Room (k + 3) X.A) (hN : X.N.Nodup) (glob : Gl X "max") (free : X.mg "max" = none) (BA : X.base.BuiltinsAt X.mg P0) (hi : PI X tg iter ti) (hpc : PC X gpos scope tc) (ok : GOk X.N X.env.scope scope own)
    (hg : Fam X k scope fun Y _ => PG Y tg g') (ht : Fam X k scope fun Y _ => PTs Y ifs tt) (he : Fam X k scope fun Y code => PE Y elt (te code)) (hs : ∀ v, genFold iter X.env v = pure v := by intro _; rfl)
    (one : starEach [.GeneratorExp elt [⟨tg, iter, ifs, 0⟩] scope gpos] X.env = [(false, eval (.GeneratorExp elt [⟨tg, iter, ifs, 0⟩] scope gpos) X.env)] := by rfl) :
    PE X (.Call (.Name "max" p) [.GeneratorExp elt [⟨tg, iter, ifs, 0⟩] scope gpos] [] pos) (tGx none stMax fiMax tc ti g' tt te (own.map (·.2))) := by
  constructor
  intro pins s σ H Q I h
  have hname : (toString "max" ++ toString ".loop" : String) = "max.loop" := by decide
  refine wpAny_Call_Name_kw (ld_blt I glob free (show bootBuiltins "max" = some (.builtin "max") by decide +kernel) (callWith_builtin1 ?_ one (by rfl)) (by decide) (by decide))
  rw [one]
  refine Calls.spliced_cons (gx_eval I hN hr hi hpc BA ok hs h fun J code H3 s3 it fp tn a g gob s5 want M => Calls.spliced_nil ?_)
  obtain ⟨W, ⟨m0, w0⟩, turn⟩ := want
  have hd : X.A.depth < recursionLimit := by have := hr.dp; omega
  have hB := M.bok (A := X.A.in1.in1) hr.hd I.ok.frames
  have I5 := M.sub _ hB
  have rm := room_in hr (gEnv X scope s3 code)
  have hSc : cStatics < s5.heap.objs.size := let ⟨_, hn, _⟩ := I5.nolimit; hn.lt
  refine call_function_tree F.kind_max F.plain_max F.entry_max (F.args_max1 _) ?_
  show wpAny _ X.A.in1 (Builtin.Builtins.bindParams "max" ["key", "default"] 0 ⟨[], []⟩ >>= _) _ _ _
  refine wpAny_bind (wpAny_of_eq (show Builtin.Builtins.bindParams "max" ["key", "default"] 0 ⟨[], []⟩ = pure [none, none] from rfl) ?_)
  refine wpAny_bind (wpAny_pure ?_)
  refine wpAny_bind (wpAny_pyIter_gen (M.isGen M.get) ?_)
  refine wpAny_bind (wpAny_newObj_type ?_)
  have eS : ({ s5 with heap := s5.heap.push { cls := .type "list", data := .seq #[] } } : Shared).heap.get? s5.heap.objs.size = some (lstO #[] 0) := Heap.get?_push_size _ rfl
  have kp : ∀ b o, s5.heap.get? b = some o → (s5.heap.push { cls := .type "list", data := .seq #[] }).get? b = some o := fun b o e => Heap.get?_push_of_some _ e
  have al : a < s5.heap.objs.size := Heap.lt_size M.get
  rw [hname]
  refine wpAny_pure ⟨plainId_quiet F.plain_max_loop _, M.max_loop (σ0 := wipe σ (own.map (·.2))) hr.hd hd (Nat.ne_of_lt al) (Nat.ne_of_lt hSc) I5.sz (fun v u H s' I' r q => ⟨v, H, I', r, q⟩) (m0 + 1) _ _ 0 (kp _ _ M.get) (I5.nolimit.keeps kp) M.gen (.inl eS) ?_⟩
  refine ⟨rfl, ?_⟩
  refine M.wake (A := X.A.in1.in1) ok.co hr.hd I.ok.frames (hg _ _ _ _ _ rm rfl) (ht _ _ _ _ _ rm rfl) (he _ _ _ _ _ rm rfl) turn w0 (Nat.lt_succ_self _) rfl (allBare_setGen (s := { s5 with heap := _ }) I5.bare rfl) kp (fun b hb => ?_) ⟨_, eS⟩
  rw [List.mem_singleton.mp hb]
  exact ⟨Nat.le_refl _, _, eS, fun v z => by cases z⟩
end
end GX

namespace GX
open PySem PySem.Spec PyProof.Rows L2 GenW
section
variable {J : It} {n : Nat} {G : Hp → Prop} {Y : Nat → Hp → V → Hp → Prop} {g : TG} {tt : TT} {te : TE} {vs : List Nat} {σ : L2.St} {Q : VK} {H2 : Hp}
theorem turns_all (w : Walk J n G Y) (fb : Nat → Bool) (Iv : Hp → Prop) (h0 : Iv H2) (hG : ∀ H, Iv H → G H)
    (turn : ∀ i x H H' (Kt : V → Hp → Prop) (Kn : Hp → Prop), i < n → Iv H → Y i H x H' → (∀ H4, Iv H4 → Kt (.bl (fb i)) H4) → (fb i = true → ∀ H4, Iv H4 → Kn H4) → g x (wipe σ vs) H' fun σ2 H2 => wipe σ2 vs = wipe σ vs ∧ tt σ2 H2 fun b H3 => if b = true then te σ2 H3 Kt else Kn H3)
    (fin : ∀ H b, Iv H → (b = true ↔ ∀ i, i < n → fb i = true) → Q (.bl b) H) : ∃ W : Nat → Nat → Unit → Hp → Prop, (∃ m, W 0 m () H2) ∧ TurnsR (stAll Q) (fiAll Q) J g tt te vs σ W := by
  refine ⟨fun i m _ H => m = n - i ∧ i ≤ n ∧ Iv H ∧ ∀ j, j < i → fb j = true, ⟨n, by simp, Nat.zero_le _, h0, fun j h => absurd h (Nat.not_lt_zero _)⟩, ?_⟩
  rintro i m _ H ⟨rfl, hi, iv, al⟩
  have q := hG H iv
  by_cases hlt : i < n
  · refine .inr ⟨w.goes i H hlt q, fun _ H' => Iv H' ∧ fb i = true, fun _ H' ⟨z1, z2⟩ => ⟨n - (i + 1), by omega, rfl, hlt, z1, fun j hj => ?_⟩, fun x H' y => turn i x H H' _ _ hlt iv (w.yields i H x H' hlt q y) (fun H4 iv4 => ⟨fb i, rfl, ?_⟩) (fun e H4 iv4 => ⟨iv4, e⟩)⟩
    · by_cases e : j = i
      · rw [e]; exact z2
      · exact al j (by omega)
    · cases e : fb i with
      | true => rw [if_pos rfl]; exact ⟨iv4, rfl⟩
      | false =>
        rw [if_neg Bool.false_ne_true]
        refine fin H4 false iv4 ⟨(fun z => nomatch z), fun z => ?_⟩
        rw [z i hlt] at e
        cases e
  · have e : i = n := by omega
    subst e
    exact .inl ⟨w.stops H q, fin H true iv ⟨fun _ j hj => al j hj, fun _ => rfl⟩⟩
theorem turns_any (w : Walk J n G Y) (fb : Nat → Bool) (Iv : Hp → Prop) (h0 : Iv H2) (hG : ∀ H, Iv H → G H)
    (turn : ∀ i x H H' (Kt : V → Hp → Prop) (Kn : Hp → Prop), i < n → Iv H → Y i H x H' → (∀ H4, Iv H4 → Kt (.bl (fb i)) H4) → (fb i = false → ∀ H4, Iv H4 → Kn H4) → g x (wipe σ vs) H' fun σ2 H2 => wipe σ2 vs = wipe σ vs ∧ tt σ2 H2 fun b H3 => if b = true then te σ2 H3 Kt else Kn H3)
    (fin : ∀ H b, Iv H → (b = true ↔ ∃ i, i < n ∧ fb i = true) → Q (.bl b) H) : ∃ W : Nat → Nat → Unit → Hp → Prop, (∃ m, W 0 m () H2) ∧ TurnsR (stAny Q) (fiAny Q) J g tt te vs σ W := by
  refine ⟨fun i m _ H => m = n - i ∧ i ≤ n ∧ Iv H ∧ ∀ j, j < i → fb j = false, ⟨n, by simp, Nat.zero_le _, h0, fun j h => absurd h (Nat.not_lt_zero _)⟩, ?_⟩
  rintro i m _ H ⟨rfl, hi, iv, al⟩
  have q := hG H iv
  by_cases hlt : i < n
  · refine .inr ⟨w.goes i H hlt q, fun _ H' => Iv H' ∧ fb i = false, fun _ H' ⟨z1, z2⟩ => ⟨n - (i + 1), by omega, rfl, hlt, z1, fun j hj => ?_⟩, fun x H' y => turn i x H H' _ _ hlt iv (w.yields i H x H' hlt q y) (fun H4 iv4 => ⟨fb i, rfl, ?_⟩) (fun e H4 iv4 => ⟨iv4, e⟩)⟩
    · by_cases e : j = i
      · rw [e]; exact z2
      · exact al j (by omega)
    · cases e : fb i with
      | true => rw [if_pos rfl]; exact fin H4 true iv4 ⟨fun _ => ⟨i, hlt, e⟩, fun _ => rfl⟩
      | false => rw [if_neg Bool.false_ne_true]; exact ⟨iv4, rfl⟩
  · have e : i = n := by omega
    subst e
    refine .inl ⟨w.stops H q, fin H false iv ⟨(fun z => nomatch z), fun ⟨j, hj, z⟩ => ?_⟩⟩
    rw [al j hj] at z
    cases z
theorem turns_sum (w : Walk J n G Y) (v : Nat → Int) (Iv : Hp → Prop) (h0 : Iv H2) (hG : ∀ H, Iv H → G H)
    (turn : ∀ i x H H' (Kt : V → Hp → Prop) (Kn : Hp → Prop), i < n → Iv H → Y i H x H' → (∀ H4, Iv H4 → Kt (.int (v i)) H4) → (v i = 0 → ∀ H4, Iv H4 → Kn H4) → g x (wipe σ vs) H' fun σ2 H2 => wipe σ2 vs = wipe σ vs ∧ tt σ2 H2 fun b H3 => if b = true then te σ2 H3 Kt else Kn H3)
    (fin : ∀ H, Iv H → Q (.int (preSum v n)) H) : ∃ W : Nat → Nat → Int → Hp → Prop, (∃ m, W 0 m 0 H2) ∧ TurnsR (stSum Q) (fiSum Q) J g tt te vs σ W := by
  refine ⟨fun i m acc H => m = n - i ∧ i ≤ n ∧ Iv H ∧ acc = preSum v i, ⟨n, by simp, Nat.zero_le _, h0, rfl⟩, ?_⟩
  rintro i m acc H ⟨rfl, hi, iv, rfl⟩
  have q := hG H iv
  by_cases hlt : i < n
  · refine .inr ⟨w.goes i H hlt q, fun acc' H' => Iv H' ∧ acc' = preSum v (i + 1), fun acc' H' ⟨z1, z2⟩ => ⟨n - (i + 1), by omega, rfl, hlt, z1, z2⟩, fun x H' y => turn i x H H' _ _ hlt iv (w.yields i H x H' hlt q y) (fun H4 iv4 => ⟨v i, rfl, iv4, rfl⟩) (fun e H4 iv4 => ⟨iv4, ?_⟩)⟩
    show preSum v i = preSum v i + v i
    omega
  · have e : i = n := by omega
    subst e
    exact .inl ⟨w.stops H q, fin H iv⟩
theorem turns_max (w : Walk J n G Y) (v : Nat → Int) (hn : 0 < n) (Iv : Hp → Prop) (h0 : Iv H2) (hG : ∀ H, Iv H → G H)
    (turn : ∀ i x H H' (Kt : V → Hp → Prop) (Kn : Hp → Prop), i < n → Iv H → Y i H x H' → (∀ H4, Iv H4 → Kt (.int (v i)) H4) → g x (wipe σ vs) H' fun σ2 H2 => wipe σ2 vs = wipe σ vs ∧ tt σ2 H2 fun b H3 => if b = true then te σ2 H3 Kt else Kn H3)
    (fin : ∀ H m, Iv H → (∃ i, i < n ∧ v i = m) → (∀ i, i < n → v i ≤ m) → Q (.int m) H) : ∃ W : Nat → Nat → Option Int → Hp → Prop, (∃ m, W 0 m none H2) ∧ TurnsR (stMax Q) (fiMax Q) J g tt te vs σ W := by
  refine ⟨fun i m acc H => m = n - i ∧ i ≤ n ∧ Iv H ∧ ((i = 0 ∧ acc = none) ∨ ∃ k, acc = some k ∧ (∃ j, j < i ∧ v j = k) ∧ ∀ j, j < i → v j ≤ k), ⟨n, by simp, Nat.zero_le _, h0, .inl ⟨rfl, rfl⟩⟩, ?_⟩
  rintro i m acc H ⟨rfl, hi, iv, hacc⟩
  have q := hG H iv
  by_cases hlt : i < n
  · refine .inr ⟨w.goes i H hlt q, fun acc' H' => Iv H' ∧ ∃ k, acc' = some k ∧ (∃ j, j < i + 1 ∧ v j = k) ∧ ∀ j, j < i + 1 → v j ≤ k, fun acc' H' ⟨z1, z2⟩ => ⟨n - (i + 1), by omega, rfl, hlt, z1, .inr z2⟩, fun x H' y => turn i x H H' _ _ hlt iv (w.yields i H x H' hlt q y) (fun H4 iv4 => ⟨v i, rfl, iv4, ?_⟩)⟩
    rcases hacc with ⟨rfl, rfl⟩ | ⟨k, rfl, ⟨j, hj, ej⟩, al⟩
    · exact ⟨v 0, rfl, ⟨0, by omega, rfl⟩, fun j hj => by
        have e : j = 0 := by omega
        rw [e]
        exact Int.le_refl _⟩
    · refine ⟨_, rfl, ?_, fun j' hj' => ?_⟩
      · by_cases c : k < v i
        · exact ⟨i, by omega, (if_pos c).symm⟩
        · exact ⟨j, by omega, by rw [ej]; exact (if_neg c).symm⟩
      · show v j' ≤ if k < v i then v i else k
        by_cases e : j' = i
        · rw [e]; split <;> omega
        · have := al j' (by omega)
          split <;> omega
  · have e : i = n := by omega
    subst e
    rcases hacc with ⟨e, _⟩ | ⟨k, rfl, hk, al⟩
    · omega
    · exact .inl ⟨w.stops H q, k, rfl, fin H k iv hk al⟩
end
end GX

open LamX
/-! ### least_cost -/
theorem NoTab.same {H H' : Hp} (s : Same H H') : GX.NoTab H H' := .of s
theorem SqH.noTab {H H' : Hp} {a : Addr} {xs : List V} (h : SqH H a xs) (s : GX.NoTab H H') : SqH H' a xs := h.elim (fun e => .inl (s.lst e)) (fun e => .inr (s.tup e))
theorem LsQ.noTab {H H' : Hp} {a : Addr} {rs : List (Int × Int)} (h : LsQ H a rs) (s : GX.NoTab H H') : LsQ H' a rs := by
  obtain ⟨us, e, p⟩ := h
  exact ⟨us, e.noTab s, p.1, fun i r er => let ⟨x, h1, h2⟩ := p.2 i r er; ⟨x, h1, s.tup h2⟩⟩
/-- the lambda's table is known, of most_dues -/
structure LamT (Ms : GX.Mq) (Pt : Addr) : Prop where
  mem : (Pt, qD) ∈ Ms.ls
  one : ∀ l ∈ Ms.ls, l.1 = Pt → l.2 = qD
theorem but_noTab {P : Addr} {q : Str} {H H2 : Hp} (h : TabS H P q) (h2 : TabS H2 P q) (k : ButAt P H H2) : GX.NoTab H H2 := by
  obtain ⟨ps, e, _⟩ := h
  obtain ⟨ps2, e2, _⟩ := h2
  exact GX.But.noTab k e e2
def spCost (K : PySem.W.Frag) (Ms : GX.Mq) (Xs : List Addr) (Pc Pt : Addr) : Sp := fun vs H Q _ => ∃ (a b : Addr) (ps : List Int) (rs : List (Int × Int)), vs = [.ref a, .ref b] ∧ IntsQ H a ps ∧ LsQ H b rs ∧ (∀ x ∈ ps, 0 ≤ x) ∧ ps.length ≤ 900 ∧ rs.length ≤ 900 ∧ RunIn ps.length rs ∧ GX.TQ Ms Xs H ∧ Pc ∈ Ms ∧ LamT Ms Pt ∧
  ∀ H2 T L D co pl ds, GX.NoTab H H2 → GX.TQ Ms Xs H2 → H T = none → H L = none → H D = none → L ≠ D → H2 T = some (.tup [.int co, .ref L, .ref D]) → IntsA H2 L pl → IntsA H2 D ds → ToldOk ps rs co pl ds → Q (.ref T) H2
theorem preSum_list {f : Int → Int} {l : List Int} {v : Nat → Int} (h : ∀ (i : Nat) p, l[i]? = some p → v i = f p) : ∀ n, n ≤ l.length → preSum v n = costF f (l.take n)
  | 0, _ => by rw [List.take_zero]; rfl
  | n + 1, hn => by
    have e : l[n]? = some l[n] := List.getElem?_eq_getElem (by omega)
    have hv := h n _ e
    show preSum v n + v n = _
    rw [preSum_list h n (by omega), List.take_add_one, e, hv]
    unfold costF
    rw [List.map_append, List.sum_append]
    simp
abbrev sCost : Stmt := topS 4
theorem scCost : FnScope ["prices", "runs", "places", "place"] ["prices", "runs"] (defScope sCost) := ⟨rfl, rfl, rfl, by decide +kernel, rfl, by decide +kernel, by decide +kernel⟩
section
variable {K : PySem.W.Frag} {mg : Str → Option Value} {P : Program} {w : World} {base : Heap} {Pt : Addr}
theorem ok_Cost {Ms : GX.Mq} {Xs : List Addr} {f c Pc : Addr} {oc kV doc pm ct : Value} {od an : Option Addr} {osl : Array (Option Value)} (lk : K.lookup f = some ⟨oc, od, .func (PySem.W.fnOf "least_cost" "least_cost" (defArgs sCost) (defBody sCost) (defScope sCost) .none kV doc pm an (.ref c) ct), osl⟩) (hcd : PySem.W.codeIn K (.ref c) "least_cost" = true) (TG : GxR.TabB base mg c Pc) (C_least_places : Cal P w K mg base 2 "least_places" ["prices", "runs"] (spPlaces K)) (C_most_dues : Cal P w K mg base 4 "most_dues" ["prices", "runs"] (spDues K Pt)) (m_sum : mg "sum" = none) : FnOk P w K mg base CX0 5 f (PySem.W.fnOf "least_cost" "least_cost" (defArgs sCost) (defBody sCost) (defScope sCost) .none kV doc pm an (.ref c) ct) ["prices", "runs"] (spCost K Ms Xs Pc Pt) := by
  refine fn_of lk hcd scCost (fun vs H Q E h => ?_) (fun A outer s H vs Q E hr h => ?_)
  · obtain ⟨a, b, ps, rs, rfl, _⟩ := h
    rfl
  · obtain ⟨a, b, ps, rs, rfl, hA, hB, hps, hpz, hrz, hr0, hT, hPc, hL, q⟩ := h
    refine ⟨_, PSs.nox (pss_cons (ps_set (i := 2) scCost.nd rfl (.inl rfl) (pe_own C_least_places (hr.mono (show 2 ≤ 4 by decide)) (by rfl) (pa_cons (pv 0) (pa_cons (pv 1) pa_nil))))
      (pss_one (ps_ret (pe_tup (pa_cons (GX.pe_sumX (k := 1) (own := [("place", 3)]) (te := fun code1 => (tOp (TK.rIxS K) (tVar 0) (tVar 3))) (g' := (gName 3)) (tt := tYes) hr scCost.nd (by rfl) m_sum TG.bm (pi_list (pv 2)) (GX.pc_own (Ms := Ms) (Xs := Xs) TG rfl) (GX.gok_by (own := [("place", 3)]) (N := ["prices", "runs", "places", "place"]) (sc := defScope sCost) (by decide +kernel)) (fun _ _ _ _ _ r1 gd1 => (pg_name (i := 3) scCost.nd rfl (.inl rfl))) (fun _ _ _ _ _ r1 gd1 => pts_nil) (fun _ _ _ code1 _ r1 gd1 => (pe_ix ix_seq (pv 0) (pv 3) (fun _ _ => rfl)))) (pa_cons (pv 2) (pa_cons (pe_own C_most_dues hr (by rfl) (pa_cons (pv 0) (pa_cons (pv 1) pa_nil))) pa_nil))))))), ?_⟩
    refine ⟨_, rfl, _, rfl, a, b, ps, rs, rfl, hA, hB, hpz, hr0, fun L H1 pre nL s1 eL hW hM hPath => ?_⟩
    have n1 := NoTab.same s1
    have eL' : H1 L = some (.lst (pre.reverse.map V.int)) := eL
    have lr : (pre.reverse.map V.int).length = pre.reverse.length := List.length_map ..
    refine ⟨_, rfl, L, rfl, ⟨_, SqL.of eL'⟩, hT.same s1, hPc, fun H2 c' P' n2 t2 nX eC tG => GX.turns_sum walk_list (fun i => prF ps (pre.reverse.getD i 0)) (fun Hx => GX.NoTab H1 Hx ∧ GX.TQ Ms Xs Hx) ⟨n2, t2⟩ (fun Hx iv => SqL.of (iv.1.lst eL')) (fun i x Hx Hx' Kt Kn hi iv hy kt _ => ?_) (fun H3 iv => ?_)⟩
    · obtain ⟨rfl, hx⟩ := hy
      rw [List.getElem?_map] at hx
      obtain ⟨p, ep, rfl⟩ := Option.map_eq_some_iff.mp hx
      have hm : p ∈ pre := List.mem_reverse.mp (List.mem_of_getElem? ep)
      have := hW.fall.lt p hm
      have e : pre.reverse.getD i 0 = p := by rw [List.getD_eq_getElem?_getD, ep]; rfl
      rw [e] at kt
      exact ⟨rfl, _, rfl, _, rfl, a, _, p, _, rfl, rfl, (((hA.same s1).noTab iv.1).sq), prF_at (hW.nn p hm) (by omega), kt _ iv⟩
    obtain ⟨n3, t3⟩ := iv
    have es : preSum (fun i => prF ps (pre.reverse.getD i 0)) (pre.reverse.map V.int).length = costF (prF ps) pre := by
      rw [lr, preSum_list (f := prF ps) (l := pre.reverse) (fun i p e => by rw [List.getD_eq_getElem?_getD, e]; rfl) _ (Nat.le_refl _), List.take_length]
      exact costF_rev _ _
    rw [es]
    have nA := n1.trans n3
    obtain ⟨lX, lM, hS⟩ := t3.lam _ hL.mem
    refine ⟨_, rfl, _, rfl, _, rfl, a, b, ps, rs, rfl, hA.noTab nA, hB.noTab nA, hps, hpz, hrz, hr0, hS, fun H4 D ds tb4 bt4 nD eD hD => ⟨(by show 3 ≤ sizeLine; decide), fun T nT => ?_⟩⟩
    have sT := same_upd (o := .tup [.int (costF (prF ps) pre), .ref L, .ref D]) nT
    have n4 := but_noTab hS tb4.1 bt4
    have t4 := t3.lamS hL.mem hL.one tb4.1 bt4
    have eL4 := n4.lst (n3.lst eL')
    have nLD : L ≠ D := ne_of_none (n3.lst eL') nD
    refine q _ T L D _ _ ds ((nA.trans n4).trans (NoTab.same sT)) (t4.same sT) ((nA.trans n4).free nT) nL (nA.free nD) nLD upd_same (sT _ _ eL4) (sT _ _ eD) (told_ok hps hr0 hW hM hPath hD)
end

/-! ### zip of a list and a tuple -/
def ItzM (K : PySem.W.Frag) (a b : Addr) : It :=
  ⟨fun i H => ∃ (xs ys : List V) (x y : V), SqL K H a xs ∧ SqT K H b ys ∧ xs[i]? = some x ∧ ys[i]? = some y,
    fun i H v H' => ∃ T x y, v = .ref T ∧ H T = none ∧ H' = upd H T (.tup [x, y]) ∧ (∀ xs, SqL K H a xs → xs[i]? = some x) ∧ ∀ ys, SqT K H b ys → ys[i]? = some y,
    fun i H => ∃ xs ys : List V, SqL K H a xs ∧ SqT K H b ys ∧ i ≤ xs.length ∧ i ≤ ys.length ∧ (i = xs.length ∨ i = ys.length)⟩
theorem turn_zipM {P : Program} {w : World} {K : PySem.W.Frag} {elts : List Expr} {kk : Nat} {tpos : Pos} {a b z TI TO i1 i2 : Addr} (D : ZipSep2 z TI TO i1 i2 [i1, a] [i2, b]) (n1 : a ≠ i1) (n2 : b ≠ i2) :
    Turn P w K (.Tuple elts kk tpos) (ItzM K a b) [z, TI, TO, i1, i2] z (fun i h => IsZip h z TI TO .none ∧ IsTupOf2 h TI (.ref i1) (.ref i2) ∧ (∃ x y, IsTupOf2 h TO x y) ∧ h.IsListIter i1 a i ∧ h.IsTupleIter i2 b i) where
  mem := by simp
  obj := fun i h st c hc => by
    obtain ⟨hz, hTI, ⟨x, y, hTO⟩, ⟨o1, e1, _, d1⟩, ⟨o2, e2, _, d2⟩⟩ := st
    have e' : c = z ∨ c = TI ∨ c = TO ∨ c = i1 ∨ c = i2 := by simpa using hc
    rcases e' with q | q | q | q | q
    · rw [q]; exact ⟨_, hz, fun v q => nomatch q⟩
    · rw [q]; exact ⟨_, hTI, fun v q => nomatch q⟩
    · rw [q]; exact ⟨_, hTO, fun v q => nomatch q⟩
    · rw [q]; exact ⟨o1, e1, fun v q => by rw [d1] at q; cases q⟩
    · rw [q]; exact ⟨o2, e2, fun v q => by rw [d2] at q; cases q⟩
  keep := fun i h h' st k => by
    obtain ⟨hz, hTI, ⟨x, y, hTO⟩, h1, h2⟩ := st
    exact ⟨k z (by simp) _ hz, k TI (by simp) _ hTI, ⟨x, y, k TO (by simp) _ hTO⟩, h1.at fun o q => k i1 (by simp) o q, h2.at fun o q => k i2 (by simp) o q⟩
  item := by
    intro X hP hw hK hc i pins s σ H E I hf st hg
    subst hP hw hK
    obtain ⟨hz, hTI, ⟨x0, y0, hTO⟩, h1, h2⟩ := st
    obtain ⟨xs, ys, x, y, hqx, hqy, hx, hy⟩ := hg
    obtain ⟨its, rv, p, _⟩ := I.list hqx
    obtain ⟨its2, rv2, p2, _⟩ := I.tuple hqy
    obtain ⟨u, hu, ru⟩ := rv.get hx
    obtain ⟨u2, hu2, ru2⟩ := rv2.get hy
    have hui : its.toArray[i]? = some u := by simpa using hu
    have hui2 : its2.toArray[i]? = some u2 := by simpa using hu2
    have hzl : z < s.heap.objs.size := Heap.lt_size hz
    have D1 := Draws.list (prog := X.prog) (w := X.w) (A := X.A.in1) (I.ok.hd hc) i1 a n1 its.toArray
    have D2 := Draws.tuple (prog := X.prog) (w := X.w) (A := X.A.in1) (I.ok.hd hc) i2 b n2 its2.toArray
    refine wpAny_pyNext_zipD2_item D D1 D2 hz hTI hTO ⟨h1, p.isList⟩ ⟨h2, p2⟩ (Array.getElem?_eq_some_iff.mp hui).1 (Array.getElem?_eq_some_iff.mp hui2).1 fun v1 v2 h' tk e1 e2 z' TO' h1' h2' hT hsz hk => ?_
    have ev1 : u = v1 := Option.some.inj (hui.symm.trans e1)
    have ev2 : u2 = v2 := Option.some.inj (hui2.symm.trans e2)
    subst ev1 ev2
    refine ⟨_, rfl, wpAny_letOwnedTupleGo_zip (s := { s with heap := h', toks := tk }) z' fun h'' z'' sb => ?_⟩
    have hT2 : h''.get? s.heap.objs.size = some { cls := .type "tuple", data := .seq #[u, u2] } := (sb.2 _ (Nat.ne_of_gt hzl)).trans hT
    have new : ObjOk X.prog X.w (upd H s.heap.objs.size (.tup [x, y])) h'' s.heap.objs.size (.tup [x, y]) :=
      ⟨by show 2 ≤ sizeLine; decide, [u, u2], .cons ru (.cons ru2 .nil), ⟨_, hT2, rfl, _, rfl⟩⟩
    have I1 : Inv X pins σ (upd H s.heap.objs.size (.tup [x, y])) { s with heap := h'', toks := tk } :=
      I.turnedNew (t' := tk) (ch := [z, TI, TO, i1, i2]) (fun c o hb q => (sb.2 c (fun q' => hb (by simp [q']))).trans (hk c o (fun q' => hb (by simp [q'])) (fun q' => hb (by simp [q'])) (fun q' => hb (by simp [q'])) (fun q' => hb (by simp [q'])) q)) hf (Nat.le_refl _) new
    refine ⟨.ref s.heap.objs.size, _, I1, rfl, ⟨_, x, y, rfl, I.hok.fresh (Nat.le_refl _), rfl, fun l hl => by rw [I.list_inj hl hqx]; exact hx, fun l hl => by rw [I.tuple_inj hl hqy]; exact hy⟩, ⟨z'', ?_, ⟨u, u2, ?_⟩, ?_, ?_⟩, fun c hcm => ?_⟩
    · exact (sb.2 _ D.TIz).trans (hk _ _ D.TIz D.TITO D.TIi1 D.TIi2 hTI)
    · exact (sb.2 _ D.TOz).trans TO'
    · exact h1'.1.at fun o q => (sb.2 _ D.zi1.symm).trans q
    · exact h2'.1.at fun o q => (sb.2 _ D.zi2.symm).trans q
    · have hlt : c < s.heap.objs.size := by
        have e' : c = z ∨ c = TI ∨ c = TO ∨ c = i1 ∨ c = i2 := by simpa using hcm
        rcases e' with q | q | q | q | q
        · rw [q]; exact hzl
        · rw [q]; exact Heap.lt_size hTI
        · rw [q]; exact Heap.lt_size hTO
        · rw [q]; obtain ⟨_, e1, _⟩ := h1; exact Heap.lt_size e1
        · rw [q]; obtain ⟨_, e2, _⟩ := h2; exact Heap.lt_size e2
      rw [upd_ne (Nat.ne_of_lt hlt)]
      exact (hf c hcm).1
  done := by
    intro X hP hw hK hc i pins s σ H E I hf st hg
    subst hP hw hK
    obtain ⟨hz, hTI, ⟨x0, y0, hTO⟩, h1, h2⟩ := st
    obtain ⟨xs, ys, hqx, hqy, g1, g2, hend⟩ := hg
    obtain ⟨its, rv, p, _⟩ := I.list hqx
    obtain ⟨its2, rv2, p2, _⟩ := I.tuple hqy
    have l1 : its.toArray.size = xs.length := by rw [List.size_toArray, rv.length]
    have l2 : its2.toArray.size = ys.length := by rw [List.size_toArray, rv2.length]
    have D1 := Draws.list (prog := X.prog) (w := X.w) (A := X.A.in1) (I.ok.hd hc) i1 a n1 its.toArray
    have D2 := Draws.tuple (prog := X.prog) (w := X.w) (A := X.A.in1) (I.ok.hd hc) i2 b n2 its2.toArray
    exact wpAny_pyNext_zipD2_end D D1 D2 hz hTI hTO ⟨h1, p.isList⟩ ⟨h2, p2⟩ (by omega) (by omega) (by omega) fun h' tk hk => ⟨rfl, I.turnedL (t' := tk) (ch := [z, TI, TO, i1, i2]) (fun c o hb q =>
      hk c o (fun q' => hb (by simp [q'])) (fun q' => hb (by simp [q'])) (fun q' => hb (by simp [q'])) (fun q' => hb (by simp [q'])) q) hf⟩
  self := fun A i s Q E st h => wpAny_pyIter_zip st.1 h
def iZipM (K : PySem.W.Frag) (ta : TA) : TI := fun σ H R => ta σ H fun vs H1 => ∃ a b xs ys, vs = [.ref a, .ref b] ∧ ((SqL K H1 a xs ∧ SqL K H1 b ys ∧ R (Itz K a b) H1) ∨ (SqL K H1 a xs ∧ SqT K H1 b ys ∧ R (ItzM K a b) H1))
theorem pi_zipM {X : Cx} {e e2 : Expr} {ta : TA} {p pos tpos : Pos} {elts : List Expr} {kk : Nat} (hg : Gl X "zip") (hm : X.mg "zip" = none) (ha : PA X [e, e2] ta)
    (hs : starEach [e, e2] X.env = (false, eval e X.env) :: starEach [e2] X.env := by rfl) (hpl : (backTo pos (starEach [e2] X.env)).any (·.1) = false := by rfl) :
    PI X (.Tuple elts kk tpos) (.Call (.Name "zip" p) [e, e2] [] pos) (iZipM X.K ta) := by
  refine ⟨fun pins s σ H R I h => ?_⟩
  refine Call_ (ld_blt I hg hm PyProof.Rows.boot_zip (PyProof.Rows.callWith_type1 (thn (ha.run pos pins s σ H _ I h) fun us s1 ⟨vs, H1, I1, r1, q1⟩ => ?_) hs hpl))
  obtain ⟨a, b, xs, ys, ex, q1⟩ := q1
  subst ex
  cases r1 with
  | cons r rr =>
    cases rr with
    | cons r' rr =>
      cases rr
      cases r
      cases r'
      have fresh5 : ∀ c, c ∈ [s1.heap.objs.size + 4, s1.heap.objs.size + 2, s1.heap.objs.size + 3, s1.heap.objs.size, s1.heap.objs.size + 1] → FpOk X pins H1 c := fun c hcm => by
        have e' : c = s1.heap.objs.size + 4 ∨ c = s1.heap.objs.size + 2 ∨ c = s1.heap.objs.size + 3 ∨ c = s1.heap.objs.size ∨ c = s1.heap.objs.size + 1 := by simpa using hcm
        have hle : s1.heap.objs.size ≤ c := by
          rcases e' with z | z | z | z | z
          · rw [z]; exact Nat.le_add_right _ _
          · rw [z]; exact Nat.le_add_right _ _
          · rw [z]; exact Nat.le_add_right _ _
          · rw [z]; exact Nat.le_refl _
          · rw [z]; exact Nat.le_add_right _ _
        exact I1.fpOk hle (I1.hok.fresh hle)
      rcases q1 with ⟨hqx, hqy, q⟩ | ⟨hqx, hqy, q⟩
      · obtain ⟨its, rv, p1, _⟩ := I1.list hqx
        obtain ⟨its2, rv2, p2, _⟩ := I1.list hqy
        refine call_zip_2 p1.isList p2.isList fun h' hz hTI hTO h1 h2 hsz hk => wpAny_pyIter_zip hz ?_
        have I2 : Inv X pins σ H1 { s1 with heap := h' } := I1.kept (t' := s1.toks) hk
        exact ⟨s1.heap.objs.size + 4, [s1.heap.objs.size + 4, s1.heap.objs.size + 2, s1.heap.objs.size + 3, s1.heap.objs.size, s1.heap.objs.size + 1], _, _, H1, rfl, I2, turn_zip (PySem.W.ktu_apart s1.heap.objs.size a b p1.lt p2.lt), ⟨hz, hTI, ⟨_, _, hTO⟩, h1, h2⟩, fresh5, q⟩
      · obtain ⟨its, rv, p1, _⟩ := I1.list hqx
        obtain ⟨its2, rv2, p2, _⟩ := I1.tuple hqy
        have la : a < s1.heap.objs.size := p1.lt
        have lb : b < s1.heap.objs.size := let ⟨_, ho, _⟩ := id p2; Heap.lt_size ho
        refine zip_begins2 (begins_list a its.toArray) (begins_tuple b its2.toArray) p1.isList p2 fun h' hz hTI hTO h1 h2 hsz hk => wpAny_pyIter_zip hz ?_
        have I2 : Inv X pins σ H1 { s1 with heap := h' } := I1.kept (t' := s1.toks) hk
        exact ⟨s1.heap.objs.size + 4, [s1.heap.objs.size + 4, s1.heap.objs.size + 2, s1.heap.objs.size + 3, s1.heap.objs.size, s1.heap.objs.size + 1], _, _, H1, rfl, I2, turn_zipM (zip_sep2 (N := s1.heap.objs.size) (fun c hc => by rw [List.mem_singleton.mp hc]; exact la) (fun c hc => by rw [List.mem_singleton.mp hc]; exact lb)) (Nat.ne_of_lt la) (Nat.ne_of_lt (Nat.lt_succ_of_lt lb)), ⟨hz, hTI, ⟨_, _, hTO⟩, ⟨_, h1, rfl, rfl⟩, ⟨_, h2, rfl, rfl⟩⟩, fresh5, q⟩
theorem walk_zipM {K : PySem.W.Frag} {a b : Addr} {xs ys : List V} (hl : xs.length = ys.length) : Walk (ItzM K a b) xs.length (fun H => SqL K H a xs ∧ SqT K H b ys) (YPair (fun i => xs[i]?) (fun i => ys[i]?)) where
  goes := fun i _ hi q => ⟨xs, ys, xs[i], ys[i]'(hl ▸ hi), q.1, q.2, List.getElem?_eq_getElem hi, List.getElem?_eq_getElem (hl ▸ hi)⟩
  stops := fun _ q => ⟨xs, ys, q.1, q.2, Nat.le_refl _, Nat.le_of_eq hl, .inl rfl⟩
  yields := fun i H v H' _ q ⟨T, x, y, h1, h2, h3, h4, h5⟩ => ⟨T, x, y, h1, h2, h3, h4 xs q.1, h5 ys q.2⟩
/-! ### zip of a tuple and a list -/
def ItzN (K : PySem.W.Frag) (a b : Addr) : It :=
  ⟨fun i H => ∃ (xs ys : List V) (x y : V), SqT K H a xs ∧ SqL K H b ys ∧ xs[i]? = some x ∧ ys[i]? = some y,
    fun i H v H' => ∃ T x y, v = .ref T ∧ H T = none ∧ H' = upd H T (.tup [x, y]) ∧ (∀ xs, SqT K H a xs → xs[i]? = some x) ∧ ∀ ys, SqL K H b ys → ys[i]? = some y,
    fun i H => ∃ xs ys : List V, SqT K H a xs ∧ SqL K H b ys ∧ i ≤ xs.length ∧ i ≤ ys.length ∧ (i = xs.length ∨ i = ys.length)⟩
theorem turn_zipN {P : Program} {w : World} {K : PySem.W.Frag} {elts : List Expr} {kk : Nat} {tpos : Pos} {a b z TI TO i1 i2 : Addr} (D : ZipSep2 z TI TO i1 i2 [i1, a] [i2, b]) (n1 : a ≠ i1) (n2 : b ≠ i2) :
    Turn P w K (.Tuple elts kk tpos) (ItzN K a b) [z, TI, TO, i1, i2] z (fun i h => IsZip h z TI TO .none ∧ IsTupOf2 h TI (.ref i1) (.ref i2) ∧ (∃ x y, IsTupOf2 h TO x y) ∧ h.IsTupleIter i1 a i ∧ h.IsListIter i2 b i) where
  mem := by simp
  obj := fun i h st c hc => by
    obtain ⟨hz, hTI, ⟨x, y, hTO⟩, ⟨o1, e1, _, d1⟩, ⟨o2, e2, _, d2⟩⟩ := st
    have e' : c = z ∨ c = TI ∨ c = TO ∨ c = i1 ∨ c = i2 := by simpa using hc
    rcases e' with q | q | q | q | q
    · rw [q]; exact ⟨_, hz, fun v q => nomatch q⟩
    · rw [q]; exact ⟨_, hTI, fun v q => nomatch q⟩
    · rw [q]; exact ⟨_, hTO, fun v q => nomatch q⟩
    · rw [q]; exact ⟨o1, e1, fun v q => by rw [d1] at q; cases q⟩
    · rw [q]; exact ⟨o2, e2, fun v q => by rw [d2] at q; cases q⟩
  keep := fun i h h' st k => by
    obtain ⟨hz, hTI, ⟨x, y, hTO⟩, h1, h2⟩ := st
    exact ⟨k z (by simp) _ hz, k TI (by simp) _ hTI, ⟨x, y, k TO (by simp) _ hTO⟩, h1.at fun o q => k i1 (by simp) o q, h2.at fun o q => k i2 (by simp) o q⟩
  item := by
    intro X hP hw hK hc i pins s σ H E I hf st hg
    subst hP hw hK
    obtain ⟨hz, hTI, ⟨x0, y0, hTO⟩, h1, h2⟩ := st
    obtain ⟨xs, ys, x, y, hqx, hqy, hx, hy⟩ := hg
    obtain ⟨its, rv, p, _⟩ := I.tuple hqx
    obtain ⟨its2, rv2, p2, _⟩ := I.list hqy
    obtain ⟨u, hu, ru⟩ := rv.get hx
    obtain ⟨u2, hu2, ru2⟩ := rv2.get hy
    have hui : its.toArray[i]? = some u := by simpa using hu
    have hui2 : its2.toArray[i]? = some u2 := by simpa using hu2
    have hzl : z < s.heap.objs.size := Heap.lt_size hz
    have D1 := Draws.tuple (prog := X.prog) (w := X.w) (A := X.A.in1) (I.ok.hd hc) i1 a n1 its.toArray
    have D2 := Draws.list (prog := X.prog) (w := X.w) (A := X.A.in1) (I.ok.hd hc) i2 b n2 its2.toArray
    refine wpAny_pyNext_zipD2_item D D1 D2 hz hTI hTO ⟨h1, p⟩ ⟨h2, p2.isList⟩ (Array.getElem?_eq_some_iff.mp hui).1 (Array.getElem?_eq_some_iff.mp hui2).1 fun v1 v2 h' tk e1 e2 z' TO' h1' h2' hT hsz hk => ?_
    have ev1 : u = v1 := Option.some.inj (hui.symm.trans e1)
    have ev2 : u2 = v2 := Option.some.inj (hui2.symm.trans e2)
    subst ev1 ev2
    refine ⟨_, rfl, wpAny_letOwnedTupleGo_zip (s := { s with heap := h', toks := tk }) z' fun h'' z'' sb => ?_⟩
    have hT2 : h''.get? s.heap.objs.size = some { cls := .type "tuple", data := .seq #[u, u2] } := (sb.2 _ (Nat.ne_of_gt hzl)).trans hT
    have new : ObjOk X.prog X.w (upd H s.heap.objs.size (.tup [x, y])) h'' s.heap.objs.size (.tup [x, y]) :=
      ⟨by show 2 ≤ sizeLine; decide, [u, u2], .cons ru (.cons ru2 .nil), ⟨_, hT2, rfl, _, rfl⟩⟩
    have I1 : Inv X pins σ (upd H s.heap.objs.size (.tup [x, y])) { s with heap := h'', toks := tk } :=
      I.turnedNew (t' := tk) (ch := [z, TI, TO, i1, i2]) (fun c o hb q => (sb.2 c (fun q' => hb (by simp [q']))).trans (hk c o (fun q' => hb (by simp [q'])) (fun q' => hb (by simp [q'])) (fun q' => hb (by simp [q'])) (fun q' => hb (by simp [q'])) q)) hf (Nat.le_refl _) new
    refine ⟨.ref s.heap.objs.size, _, I1, rfl, ⟨_, x, y, rfl, I.hok.fresh (Nat.le_refl _), rfl, fun l hl => by rw [I.tuple_inj hl hqx]; exact hx, fun l hl => by rw [I.list_inj hl hqy]; exact hy⟩, ⟨z'', ?_, ⟨u, u2, ?_⟩, ?_, ?_⟩, fun c hcm => ?_⟩
    · exact (sb.2 _ D.TIz).trans (hk _ _ D.TIz D.TITO D.TIi1 D.TIi2 hTI)
    · exact (sb.2 _ D.TOz).trans TO'
    · exact h1'.1.at fun o q => (sb.2 _ D.zi1.symm).trans q
    · exact h2'.1.at fun o q => (sb.2 _ D.zi2.symm).trans q
    · have hlt : c < s.heap.objs.size := by
        have e' : c = z ∨ c = TI ∨ c = TO ∨ c = i1 ∨ c = i2 := by simpa using hcm
        rcases e' with q | q | q | q | q
        · rw [q]; exact hzl
        · rw [q]; exact Heap.lt_size hTI
        · rw [q]; exact Heap.lt_size hTO
        · rw [q]; obtain ⟨_, e1, _⟩ := h1; exact Heap.lt_size e1
        · rw [q]; obtain ⟨_, e2, _⟩ := h2; exact Heap.lt_size e2
      rw [upd_ne (Nat.ne_of_lt hlt)]
      exact (hf c hcm).1
  done := by
    intro X hP hw hK hc i pins s σ H E I hf st hg
    subst hP hw hK
    obtain ⟨hz, hTI, ⟨x0, y0, hTO⟩, h1, h2⟩ := st
    obtain ⟨xs, ys, hqx, hqy, g1, g2, hend⟩ := hg
    obtain ⟨its, rv, p, _⟩ := I.tuple hqx
    obtain ⟨its2, rv2, p2, _⟩ := I.list hqy
    have l1 : its.toArray.size = xs.length := by rw [List.size_toArray, rv.length]
    have l2 : its2.toArray.size = ys.length := by rw [List.size_toArray, rv2.length]
    have D1 := Draws.tuple (prog := X.prog) (w := X.w) (A := X.A.in1) (I.ok.hd hc) i1 a n1 its.toArray
    have D2 := Draws.list (prog := X.prog) (w := X.w) (A := X.A.in1) (I.ok.hd hc) i2 b n2 its2.toArray
    exact wpAny_pyNext_zipD2_end D D1 D2 hz hTI hTO ⟨h1, p⟩ ⟨h2, p2.isList⟩ (by omega) (by omega) (by omega) fun h' tk hk => ⟨rfl, I.turnedL (t' := tk) (ch := [z, TI, TO, i1, i2]) (fun c o hb q =>
      hk c o (fun q' => hb (by simp [q'])) (fun q' => hb (by simp [q'])) (fun q' => hb (by simp [q'])) (fun q' => hb (by simp [q'])) q) hf⟩
  self := fun A i s Q E st h => wpAny_pyIter_zip st.1 h
def iZipN (K : PySem.W.Frag) (ta : TA) : TI := fun σ H R => ta σ H fun vs H1 => ∃ a b xs ys, vs = [.ref a, .ref b] ∧ SqT K H1 a xs ∧ SqL K H1 b ys ∧ R (ItzN K a b) H1
theorem pi_zipN {X : Cx} {e e2 : Expr} {ta : TA} {p pos tpos : Pos} {elts : List Expr} {kk : Nat} (hg : Gl X "zip") (hm : X.mg "zip" = none) (ha : PA X [e, e2] ta)
    (hs : starEach [e, e2] X.env = (false, eval e X.env) :: starEach [e2] X.env := by rfl) (hpl : (backTo pos (starEach [e2] X.env)).any (·.1) = false := by rfl) :
    PI X (.Tuple elts kk tpos) (.Call (.Name "zip" p) [e, e2] [] pos) (iZipN X.K ta) := by
  refine ⟨fun pins s σ H R I h => ?_⟩
  refine Call_ (ld_blt I hg hm PyProof.Rows.boot_zip (PyProof.Rows.callWith_type1 (thn (ha.run pos pins s σ H _ I h) fun us s1 ⟨vs, H1, I1, r1, q1⟩ => ?_) hs hpl))
  obtain ⟨a, b, xs, ys, ex, q1⟩ := q1
  subst ex
  cases r1 with
  | cons r rr =>
    cases rr with
    | cons r' rr =>
      cases rr
      cases r
      cases r'
      have fresh5 : ∀ c, c ∈ [s1.heap.objs.size + 4, s1.heap.objs.size + 2, s1.heap.objs.size + 3, s1.heap.objs.size, s1.heap.objs.size + 1] → FpOk X pins H1 c := fun c hcm => by
        have e' : c = s1.heap.objs.size + 4 ∨ c = s1.heap.objs.size + 2 ∨ c = s1.heap.objs.size + 3 ∨ c = s1.heap.objs.size ∨ c = s1.heap.objs.size + 1 := by simpa using hcm
        have hle : s1.heap.objs.size ≤ c := by
          rcases e' with z | z | z | z | z
          · rw [z]; exact Nat.le_add_right _ _
          · rw [z]; exact Nat.le_add_right _ _
          · rw [z]; exact Nat.le_add_right _ _
          · rw [z]; exact Nat.le_refl _
          · rw [z]; exact Nat.le_add_right _ _
        exact I1.fpOk hle (I1.hok.fresh hle)
      obtain ⟨hqx, hqy, q⟩ := q1
      obtain ⟨its, rv, p1, _⟩ := I1.tuple hqx
      obtain ⟨its2, rv2, p2, _⟩ := I1.list hqy
      have la : a < s1.heap.objs.size := let ⟨_, ho, _⟩ := id p1; Heap.lt_size ho
      have lb : b < s1.heap.objs.size := p2.lt
      refine zip_begins2 (begins_tuple a its.toArray) (begins_list b its2.toArray) p1 p2.isList fun h' hz hTI hTO h1 h2 hsz hk => wpAny_pyIter_zip hz ?_
      have I2 : Inv X pins σ H1 { s1 with heap := h' } := I1.kept (t' := s1.toks) hk
      exact ⟨s1.heap.objs.size + 4, [s1.heap.objs.size + 4, s1.heap.objs.size + 2, s1.heap.objs.size + 3, s1.heap.objs.size, s1.heap.objs.size + 1], _, _, H1, rfl, I2, turn_zipN (zip_sep2 (N := s1.heap.objs.size) (fun c hc => by rw [List.mem_singleton.mp hc]; exact la) (fun c hc => by rw [List.mem_singleton.mp hc]; exact lb)) (Nat.ne_of_lt la) (Nat.ne_of_lt (Nat.lt_succ_of_lt lb)), ⟨hz, hTI, ⟨_, _, hTO⟩, ⟨_, h1, rfl, rfl⟩, ⟨_, h2, rfl, rfl⟩⟩, fresh5, q⟩
theorem walk_zipN {K : PySem.W.Frag} {a b : Addr} {xs ys : List V} (hl : xs.length = ys.length) : Walk (ItzN K a b) xs.length (fun H => SqT K H a xs ∧ SqL K H b ys) (YPair (fun i => xs[i]?) (fun i => ys[i]?)) where
  goes := fun i _ hi q => ⟨xs, ys, xs[i], ys[i]'(hl ▸ hi), q.1, q.2, List.getElem?_eq_getElem hi, List.getElem?_eq_getElem (hl ▸ hi)⟩
  stops := fun _ q => ⟨xs, ys, q.1, q.2, Nat.le_refl _, Nat.le_of_eq hl, .inl rfl⟩
  yields := fun i H v H' _ q ⟨T, x, y, h1, h2, h3, h4, h5⟩ => ⟨T, x, y, h1, h2, h3, h4 xs q.1, h5 ys q.2⟩
theorem PI.or {X : Cx} {tg e : Expr} {r r' : TI} (h : PI X tg e r) (h' : PI X tg e r') : PI X tg e (fun σ H R => r σ H R ∨ r' σ H R) := ⟨fun pins s σ H R I q => q.elim (h.run pins s σ H R I) (h'.run pins s σ H R I)⟩
def iZipQ (K : PySem.W.Frag) (ta : TA) : TI := fun σ H R => RZ.iZipA K ta σ H R ∨ iZipM K ta σ H R ∨ iZipN K ta σ H R
theorem pi_zipQ {X : Cx} {e e2 : Expr} {ta : TA} {p pos tpos : Pos} {elts : List Expr} {kk : Nat} (hg : Gl X "zip") (hm : X.mg "zip" = none) (ha : PA X [e, e2] ta)
    (hs : starEach [e, e2] X.env = (false, eval e X.env) :: starEach [e2] X.env := by rfl) (hpl : (backTo pos (starEach [e2] X.env)).any (·.1) = false := by rfl) :
    PI X (.Tuple elts kk tpos) (.Call (.Name "zip" p) [e, e2] [] pos) (iZipQ X.K ta) := PI.or (RZ.pi_zipA hg hm ha hs hpl) (PI.or (pi_zipM hg hm ha hs hpl) (pi_zipN hg hm ha hs hpl))
/-- rows of one length by pairs: each way of holding them -/
def ZipJ (K : PySem.W.Frag) (J : It) (n : Nat) (H0 : Hp) (fx fy : Nat → Option V) : Prop := ∃ G, Walk J n G (YPair fx fy) ∧ ∀ H, GX.NoTab H0 H → G H

/-! ### enumerate over a list or a tuple -/
theorem meets_enB {v : Value} {o : Obj} {G : Heap → Prop} (B : Begins v o G) : Meets (Builtin.«enumerate.__new__» ⟨[.type "enumerate", v], []⟩) (fun _ R s => G s.heap ∧
    R (.ok (.ret (.ref (s.heap.push o).objs.size))) { s with heap := (s.heap.push o).push { cls := .type "enumerate", data := .fields #[.none, .bool false, .ref s.heap.objs.size, rawInt 0, .none, .none] } }) :=
  .of_wp fun prog w A R s given => by
    obtain ⟨hp, g, d, tk, os⟩ := s
    obtain ⟨hg, given⟩ := given
    have sub0 := sub_enumerate
    have begun : ∀ {A' : Around} {E' Q' : Value → Shared → Prop}, Q' (.ref hp.objs.size) ⟨hp.push o, g, d, tk, os⟩ → wpAny (model prog w) A' (pyIter v) Q' E' ⟨hp, g, d, tk, os⟩ := fun q => B.iter prog w _ _ ⟨hp, g, d, tk, os⟩ _ hg q
    wp_walk using begun
    refine wpAny_stack_any fun stk => wpAny_pure ?_
    split
    · rename_i c0 _ _ _ _ _
      cases (c0 == Value.type "enumerate") <;> (wp_walk using begun; exact ⟨_, rfl, given⟩)
    · wp_walk using begun
      exact ⟨_, rfl, given⟩
theorem call_enB {prog : Program} {w : World} {A : Around} {E Q : Value → Shared → Prop} {s : Shared} {v : Value} {o : Obj} {G : Heap → Prop} (B : Begins v o G) (hg : G s.heap)
    (h : ∀ h', IsEnum h' (s.heap.objs.size + 1) s.heap.objs.size 0 .none → h'.get? s.heap.objs.size = some o → (∀ b o, s.heap.get? b = some o → h'.get? b = some o) → Q (.ref (s.heap.objs.size + 1)) { s with heap := h' }) : wpAny (model prog w) A (call (.type "enumerate") [v]) Q E s := by
  refine callType_new F.called_enumerate (by decide) (F.typeCall_enumerate_1 _) (F.newCall_enumerate_1 _) (fun obj => F.args_object_init_2 obj _) F.entry_enumerate_new (meets_enB B) ⟨hg, ?_⟩
  have z1 : (s.heap.push o).objs.size = s.heap.objs.size + 1 := Heap.size_push ..
  show _ ∧ _
  rw [z1]
  have made : IsEnum ((s.heap.push o).push { cls := .type "enumerate", data := .fields #[.none, .bool false, .ref s.heap.objs.size, rawInt 0, .none, .none] }) (s.heap.objs.size + 1) s.heap.objs.size 0 .none := by
    have e0 := Heap.get?_push_size (s.heap.push o) (o := { cls := .type "enumerate", data := .fields #[.none, .bool false, .ref s.heap.objs.size, rawInt 0, .none, .none] }) rfl
    rw [z1] at e0
    exact e0
  exact ⟨⟨_, made, rfl⟩, h _ made (Heap.get?_push_of_some _ (Heap.get?_push_size _ B.free)) fun b o x => Heap.get?_push_of_some _ (Heap.get?_push_of_some _ x)⟩
/-- the tuple at a as it stands, each item in a new pair -/
def IteT (K : PySem.W.Frag) (a : Addr) : It := ⟨fun i H => ∃ (xs : List V) (x : V), SqT K H a xs ∧ xs[i]? = some x, fun i H v H' => ∃ T x, v = .ref T ∧ H T = none ∧ H' = upd H T (.tup [.int (i : Nat), x]) ∧ ∀ xs, SqT K H a xs → xs[i]? = some x, fun i H => ∃ xs : List V, SqT K H a xs ∧ xs.length = i⟩
theorem turn_enT {P : Program} {w : World} {K : PySem.W.Frag} {elts : List Expr} {kk : Nat} {tpos : Pos} (a e it : Addr) (nei : e ≠ it) (nea : e ≠ a) (nai : a ≠ it) :
    Turn P w K (.Tuple elts kk tpos) (IteT K a) [e, it] e (fun i h => (∃ old, IsEnum h e it ((i : Nat) : Int) old) ∧ h.IsTupleIter it a i) where
  mem := List.mem_cons_self ..
  obj := fun i h ⟨⟨old, he⟩, ⟨o, ho, hc, hd⟩⟩ b hb => by
    rcases List.mem_cons.mp hb with z | z
    · subst z
      exact ⟨_, he, fun v q => nomatch q⟩
    · rw [List.mem_singleton.mp z]
      exact ⟨o, ho, fun v q => by rw [hd] at q; cases q⟩
  keep := fun i h h' ⟨⟨old, he⟩, hi⟩ k => ⟨⟨old, k e (List.mem_cons_self ..) _ he⟩, hi.at fun o q => k it (List.mem_cons_of_mem _ (List.mem_singleton.mpr rfl)) o q⟩
  item := by
    intro X hP hw hK hc i pins s σ H E I hf st hg
    subst hP hw hK
    obtain ⟨⟨old, he⟩, hit⟩ := st
    obtain ⟨xs, x, hq, hx⟩ := hg
    obtain ⟨its, rv, isT, _⟩ := I.tuple hq
    obtain ⟨u, hu, ru⟩ := rv.get hx
    have lte : e < s.heap.objs.size := Heap.lt_size he
    have lti : it < s.heap.objs.size := let ⟨_, q, _⟩ := hit; Heap.lt_size q
    have hui : its.toArray[i]? = some u := by simpa using hu
    have lt : i < its.toArray.size := (Array.getElem?_eq_some_iff.mp hui).1
    have D := Draws.tuple (prog := X.prog) (w := X.w) (A := X.A.in1) (I.ok.hd hc) it a nai its.toArray
    refine wpAny_pyNext_enum_itemD D he ⟨hit, isT⟩ lt nei (by intro z; rcases List.mem_cons.mp z with z | z; exact nei z; exact nea (List.mem_singleton.mp z)) fun x' h' tk hx' ho st' hT hsz hk => ?_
    have ex : u = x' := Option.some.inj (hui.symm.trans hx')
    subst ex
    refine ⟨_, rfl, wpAny_letOwnedTupleGo_enum (s := { s with heap := h', toks := tk + 1 }) ho fun h'' he' sb => ?_⟩
    have hT2 := (sb.2 _ (Nat.ne_of_gt lte)).trans hT
    have new : ObjOk X.prog X.w (upd H s.heap.objs.size (.tup [.int (i : Nat), x])) h'' s.heap.objs.size (.tup [.int (i : Nat), x]) := ⟨by show 2 ≤ sizeLine; decide, [.int i tk, u], .cons ⟨_, rfl⟩ (.cons ru .nil), ⟨_, hT2, rfl, _, rfl⟩⟩
    have I1 : Inv X pins σ (upd H s.heap.objs.size (.tup [.int (i : Nat), x])) { s with heap := h'', toks := tk + 1 } :=
      I.turnedNew (t' := tk + 1) (ch := [e, it]) (fun b ob hb q => (sb.2 b (fun z => hb (z ▸ List.mem_cons_self ..))).trans (hk b ob (fun z => hb (z ▸ List.mem_cons_self ..)) (fun z => hb (z ▸ List.mem_cons_of_mem _ (List.mem_singleton.mpr rfl))) q)) hf (Nat.le_refl _) new
    refine ⟨.ref s.heap.objs.size, _, I1, rfl, ⟨_, x, rfl, I.hok.fresh (Nat.le_refl _), rfl, fun ys hy => by rw [I.tuple_inj hy hq]; exact hx⟩, ⟨⟨u, ?_⟩, st'.1.at fun o q => (sb.2 it nei.symm).trans q⟩, fun b hb => ?_⟩
    · have e1 : ((i + 1 : Nat) : Int) = (i : Int) + 1 := by omega
      exact e1 ▸ he'
    · have ltb : b < s.heap.objs.size := by
        rcases List.mem_cons.mp hb with z | z
        · exact z ▸ lte
        · exact (List.mem_singleton.mp z) ▸ lti
      rw [upd_ne (Nat.ne_of_lt ltb)]
      exact (hf b hb).1
  done := by
    intro X hP hw hK hc i pins s σ H E I hf st hg
    subst hP hw hK
    obtain ⟨⟨old, he⟩, hit⟩ := st
    obtain ⟨xs, hq, hx⟩ := hg
    obtain ⟨its, rv, isT, _⟩ := I.tuple hq
    obtain ⟨f0, f1, _, f3, f4, f5⟩ := hf it (List.mem_cons_of_mem _ (List.mem_singleton.mpr rfl))
    have hl : its.toArray.size = i := by
      have := rv.length
      simp
      omega
    have D := Draws.tuple (prog := X.prog) (w := X.w) (A := X.A.in1) (I.ok.hd hc) it a nai its.toArray
    exact wpAny_pyNext_enum_endD D he (hl.symm ▸ ⟨hit, isT⟩) fun h' eb => ⟨rfl, I.turned (t' := s.toks) (fun b o hb q => eb b o hb q) f0 f1 f3 f4 f5⟩
  self := fun A i s Q E ⟨⟨_, he⟩, _⟩ h => wpAny_pyIter_enum he h
def iEnS (K : PySem.W.Frag) (ta : TA) : TI := fun σ H R => ta σ H fun vs H1 => ∃ a, vs = [.ref a] ∧ (((∃ xs, SqL K H1 a xs) ∧ R (Ite K a) H1) ∨ ((∃ xs, SqT K H1 a xs) ∧ R (IteT K a) H1))
theorem pi_enS {X : Cx} {e : Expr} {ta : TA} {p pos tpos : Pos} {elts : List Expr} {kk : Nat} (hg : Gl X "enumerate") (hm : X.mg "enumerate" = none) (ha : PA X [e] ta) (hs : starEach [e] X.env = [(false, eval e X.env)] := by rfl) : PI X (.Tuple elts kk tpos) (.Call (.Name "enumerate" p) [e] [] pos) (iEnS X.K ta) := by
  constructor
  intro pins s σ H R I h
  refine Call_ (ld_blt I hg hm boot_enumerate (PyProof.Rows.callWith_type1 (thn (ha.run pos pins s σ H _ I h) fun us s1 had => ?_) hs rfl))
  obtain ⟨_, H1, J, rel, a, rfl, had⟩ := had
  cases rel with | cons r rr => ?_
  cases rr
  cases r
  have apart : ∀ b ∈ [s1.heap.objs.size + 1, s1.heap.objs.size], FpOk X pins H1 b := fun b hb => by
    have le : s1.heap.objs.size ≤ b := by
      rcases List.mem_cons.mp hb with z | z
      · rw [z]; exact Nat.le_succ _
      · rw [List.mem_singleton.mp z]; exact Nat.le_refl _
    exact J.fpOk le (J.hok.fresh le)
  rcases had with ⟨⟨xs, hq⟩, q⟩ | ⟨⟨xs, hq⟩, q⟩
  · obtain ⟨its, _, isL, _⟩ := J.list hq
    exact call_enumerate_list isL.isList fun h' he hit _ hk => wpAny_pyIter_enum he ⟨_, _, _, _, H1, rfl, J.kept (t' := s1.toks) hk, turn_enum a _ _, ⟨⟨.none, he⟩, hit, Nat.succ_ne_self _⟩, apart, q⟩
  · obtain ⟨its, _, isT, _⟩ := J.tuple hq
    have lta : a < s1.heap.objs.size := let ⟨_, ho, _⟩ := id isT; Heap.lt_size ho
    exact call_enB (begins_tuple a its.toArray) isT fun h' he hit hk => wpAny_pyIter_enum he ⟨_, _, _, _, H1, rfl, J.kept (t' := s1.toks) hk, turn_enT a _ _ (Nat.succ_ne_self _) (Nat.ne_of_gt (Nat.lt_succ_of_lt lta)) (Nat.ne_of_lt lta), ⟨⟨.none, he⟩, ⟨_, hit, rfl, rfl⟩⟩, apart, q⟩
theorem walk_enT {K : PySem.W.Frag} {a : Addr} {xs : List V} : Walk (IteT K a) xs.length (fun H => SqT K H a xs) (YPair (fun i => some (.int (i : Nat))) (fun i => xs[i]?)) where
  goes := fun i _ hi q => ⟨xs, xs[i], q, List.getElem?_eq_getElem hi⟩
  stops := fun _ q => ⟨xs, q, rfl⟩
  yields := fun i H v H' _ q ⟨T, x, h1, h2, h3, h4⟩ => ⟨T, .int (i : Nat), x, h1, h2, h3, rfl, h4 xs q⟩
theorem for_enS {K : PySem.W.Frag} {a : Addr} {xs : List V} {g : TG} {tb : TS} {D : Ends} {σ : L2.St} {H0 H1 : Hp} (hq : Sq K H0 a xs) (s1 : Same H0 H1) (Pv : Nat → L2.St → Hp → Prop) (h0 : Pv 0 σ H1) (hl : ∀ i σ H', Pv i σ H' → Same H0 H')
    (turn : ∀ i x T σ H, xs[i]? = some x → Pv i σ H → H T = none → g (.ref T) σ (upd H T (.tup [.int (i : Nat), x])) fun σ2 H2 => tb { D with nx := Pv (i + 1), ct := Pv (i + 1), bk := D.nx } σ2 H2) (fin : ∀ σ H, Pv xs.length σ H → D.nx σ H) :
    ((∃ xs, SqL K H1 a xs) ∧ ForR (Ite K a) g tb D σ H1) ∨ ((∃ xs, SqT K H1 a xs) ∧ ForR (IteT K a) g tb D σ H1) := by
  have tn : ∀ i v σ H H', i < xs.length → Pv i σ H → YPair (fun i => some (.int (i : Nat))) (fun i => xs[i]?) i H v H' → g v σ H' fun σ2 H2 => tb { D with nx := Pv (i + 1), ct := Pv (i + 1), bk := D.nx } σ2 H2 := by
    rintro i v σ H H' _ hp ⟨T, x, y, rfl, nT, rfl, e1, e2⟩
    cases e1
    exact turn i y T σ H e2 hp nT
  rcases hq with h | h
  · exact .inl ⟨⟨xs, s1.seq h⟩, for_it walk_enum Pv h0 (fun i σ H' _ p => (hl i σ H' p).seq h) tn fin⟩
  · exact .inr ⟨⟨xs, same_t s1 h⟩, for_it walk_enT Pv h0 (fun i σ H' _ p => same_t (hl i σ H' p) h) tn fin⟩

/-! ### sum of a row; a row from its second on -/
section
variable {X : Cx}
theorem cr_sumT (hc : X.calm = true) : CallR X (.builtin "sum") (fun vs H Q => ∃ (a : Addr) (ns : List Int), vs = [V.ref a] ∧ SqT X.K H a (ns.map V.int) ∧ Q (.int ns.sum) H) := fun pins s σ H vs us Q I r h => by
  obtain ⟨a, ns, rfl, hs, q⟩ := h
  obtain ⟨its, rv, p, _⟩ := I.tuple hs
  rw [Vals.ref1 r]
  have p : s.heap.IsTuple a its.toArray := p
  have hlt : a < s.heap.objs.size := by obtain ⟨_, e, _⟩ := p; exact Heap.lt_size e
  have lits : its.length = ns.length := by rw [← rv.length, List.length_map]
  refine call_sum_walkG (wpAny_pyIter_tuple p ⟨_, _, _, _, _, _, fun i => ns.getD i 0, rfl, Walks.tuple (A := X.A.in1) (I.ok.hd hc) _ a (Nat.ne_of_lt hlt) its.toArray, ⟨⟨_, Heap.get?_push_size _ rfl, rfl, rfl⟩, p.push _⟩, fun b hb => ?_, fun i v e => ?_, fun h' tk t' hk => ?_⟩)
  · show b < (s.heap.push _).objs.size
    rw [Heap.size_push]
    rcases List.mem_cons.mp hb with rfl | hb
    · exact Nat.lt_succ_self _
    · rw [List.mem_singleton.mp hb]
      exact Nat.lt_succ_of_lt hlt
  · have e2 : its[i]? = some v := by simpa using e
    have hi : i < ns.length := by rw [← lits]; exact (List.getElem?_eq_some_iff.mp e2).1
    obtain ⟨u, hu, ru⟩ := rv.get (i := i) (x := .int ns[i]) (by rw [List.getElem?_map, List.getElem?_eq_getElem hi]; rfl)
    rw [e2] at hu
    cases hu
    obtain ⟨t, rfl⟩ := ru
    refine ⟨t, ?_⟩
    show Value.int ns[i] t = Value.int (ns.getD i 0) t
    rw [List.getD_eq_getElem?_getD, List.getElem?_eq_getElem hi]
    rfl
  · have es : preSum (fun i => ns.getD i 0) its.toArray.size = ns.sum := by
      rw [List.size_toArray, lits, preSum_list (f := fun x => x) (l := ns) (fun i p e => by rw [List.getD_eq_getElem?_getD, e]; rfl) _ (Nat.le_refl _), List.take_length]
      unfold costF
      rw [List.map_id']
    rw [es]
    refine ⟨.int _, H, I.kept fun b o eo => hk b o (fun hmem => ?_) (Heap.get?_push_of_some _ eo), ⟨_, rfl⟩, q⟩
    rcases List.mem_cons.mp hmem with e1 | hmem
    · exact absurd (e1 ▸ Heap.lt_size eo) (Nat.lt_irrefl _)
    · cases hmem
def rSumQ (K : PySem.W.Frag) : List V → Hp → VK → Prop := fun vs H Q => rSum K vs H Q ∨ ∃ (a : Addr) (ns : List Int), vs = [V.ref a] ∧ SqT K H a (ns.map V.int) ∧ Q (.int ns.sum) H
theorem cr_sumQ (hc : X.calm = true) : CallR X (.builtin "sum") (rSumQ X.K) := (cr_sum hc).or (cr_sumT hc)
theorem rSumQ.of {K : PySem.W.Frag} {H : Hp} {a : Addr} {ns : List Int} {Q : VK} (h : IntsQ H a ns) (q : Q (.int ns.sum) H) : rSumQ K [.ref a] H Q := h.elim (fun e => .inl ⟨a, ns, rfl, SqL.of e, q⟩) (fun e => .inr ⟨a, ns, rfl, .inl (.inl e), q⟩)
def rSlQ (K : PySem.W.Frag) : V → Option Int → Option Int → Hp → VK → Prop := fun x lo hi H Q => rSlL K x lo hi H Q ∨ rSlA K x lo hi H Q
theorem sl_seq : SlR X (rSlQ X.K) := SlR.or sl_list sl_tupA
end
theorem cutV_tail (xs : List V) : cutV xs (some 1) none = xs.drop 1 := by
  unfold cutV
  rw [HT.sIx_none, show (some (1 : Int)) = some ((1 : Nat) : Int) from rfl, HT.sIx_nat]
  by_cases h : 1 ≤ xs.length
  · rw [Nat.min_eq_left h, List.take_of_length_le (by rw [List.length_drop]; omega)]
  · rw [Nat.min_eq_right (by omega), List.drop_eq_nil_of_le (Nat.le_refl _), List.drop_eq_nil_of_le (by omega), List.take_nil]
/-- the tail of a row, of the same kind -/
theorem rSlQ.tail {K : PySem.W.Frag} {H : Hp} {a : Addr} {xs : List V} {Q : VK} (h : SqH H a xs) (q : ∀ p H', Same H H' → ((H a = some (.lst xs) ∧ H' p = some (.lst (xs.drop 1))) ∨ (H a = some (.tup xs) ∧ H' p = some (.tup (xs.drop 1)))) → Q (.ref p) H') : rSlQ K (.ref a) (some 1) none H Q := by
  rcases h with e | e
  · refine .inl ⟨a, xs, rfl, SqL.of e, fun p np => ?_⟩
    exact q p _ (same_upd np) (.inl ⟨e, by rw [upd_same, cutV_tail]⟩)
  · refine .inr ⟨a, xs, rfl, .inl (.inl e), fun hw => ?_, fun _ p np => ?_⟩
    · have e0 : xs.drop 1 = xs := by
        have := hw.1
        rw [show (some (1 : Int)) = some ((1 : Nat) : Int) from rfl, HT.sIx_nat] at this
        have : xs.length = 0 := by omega
        rw [List.length_eq_zero_iff.mp this]
        rfl
      exact q a H (Same.refl _) (.inr ⟨e, by rw [e0]; exact e⟩)
    · exact q p _ (same_upd np) (.inr ⟨e, by rw [upd_same, cutV_tail]⟩)
/-! ### the checkers -/
def spIsRow : Sp := fun vs H Q _ => ∃ (a : Addr) (xs : List V), vs = [.ref a] ∧ SqH H a xs ∧ ∀ H', Same H H' → Q (.bl true) H'
def spTupOf : Sp := fun vs H Q _ => ∃ (a : Addr) (xs : List V), vs = [.ref a, .int (xs.length : Int)] ∧ H a = some (.tup xs) ∧ Q (.bl true) H
def spIsNum : Sp := fun vs H Q _ => ∃ i : Int, vs = [.int i] ∧ 0 ≤ i ∧ Q (.bl true) H
abbrev sIsRow : Stmt := topS 6
theorem scIsRow : FnScope ["thing"] ["thing"] (defScope sIsRow) := ⟨rfl, rfl, rfl, by decide +kernel, rfl, by decide +kernel, by decide +kernel⟩
abbrev sTupOf : Stmt := topS 7
theorem scTupOf : FnScope ["thing", "many"] ["thing", "many"] (defScope sTupOf) := ⟨rfl, rfl, rfl, by decide +kernel, rfl, by decide +kernel, by decide +kernel⟩
abbrev sIsNum : Stmt := topS 8
theorem scIsNum : FnScope ["thing"] ["thing"] (defScope sIsNum) := ⟨rfl, rfl, rfl, by decide +kernel, rfl, by decide +kernel, by decide +kernel⟩
abbrev sLNum : Stmt := topS 30
theorem scLNum : FnScope ["_law_thing"] ["_law_thing"] (defScope sLNum) := ⟨rfl, rfl, rfl, by decide +kernel, rfl, by decide +kernel, by decide +kernel⟩
section
variable {K : PySem.W.Frag} {mg : Str → Option Value} {P : Program} {w : World} {base : Heap}
theorem kit2L {K : PySem.W.Frag} : PySem.W.kitAny K (.type "list") [.type "list", .type "tuple"] = some true :=
  kitAny_cons (b := true) (kit_ty (by decide +kernel)) (fun z => nomatch z) (fun _ => rfl)
theorem kit2T {K : PySem.W.Frag} : PySem.W.kitAny K (.type "tuple") [.type "list", .type "tuple"] = some true :=
  kitAny_cons (b := false) (kit_ty (by decide +kernel)) (fun _ => kitAny_cons (b := true) (kit_ty (by decide +kernel)) (fun z => nomatch z) (fun _ => rfl)) (fun z => nomatch z)
theorem ok_IsRow {f : Addr} {fd : FuncData} (F : Fun K "is_row" "is_row" sIsRow f fd) (m_tuple : mg "tuple" = none) (m_list : mg "list" = none) (m_isinstance : mg "isinstance" = none) : FnOk P w K mg base CX0 1 f fd ["thing"] spIsRow := by
  refine F.ok scIsRow (fun vs H Q E h => ?_) (fun cdv A outer s H vs Q E hr h => ?_)
  · obtain ⟨a, xs, rfl, _⟩ := h
    rfl
  · obtain ⟨a, xs, rfl, hA, q⟩ := h
    refine ⟨_, pss_one (ps_ret (pe_callB call_isiT (by rfl) m_isinstance (by decide +kernel) (pa_cons (pv 0) (pa_cons (pe_tup (pa_cons (pe_bltn (v := .ty "list") (by rfl) m_list (by decide +kernel) rfl) (pa_cons (pe_bltn (v := .ty "tuple") (by rfl) m_tuple (by decide +kernel) rfl) pa_nil))) pa_nil)))), ?_⟩
    refine ⟨_, rfl, (by show 2 ≤ sizeLine; decide), fun p np => ?_⟩
    have s1 : Same H (upd H p (.tup [.ty "list", .ty "tuple"])) := same_upd np
    rcases hA with e | e
    · exact ⟨.ref a, p, _, .type "list", [.type "list", .type "tuple"], true, rfl, upd_same, .cons (.ty _) (.cons (.ty _) .nil), .base (.lst (s1 _ _ e)), kit2L, q _ s1⟩
    · exact ⟨.ref a, p, _, .type "tuple", [.type "list", .type "tuple"], true, rfl, upd_same, .cons (.ty _) (.cons (.ty _) .nil), .base (.tup (s1 _ _ e)), kit2T, q _ s1⟩
theorem ok_TupOf {f : Addr} {fd : FuncData} (F : Fun K "is_tuple_of" "is_tuple_of" sTupOf f fd) (m_isinstance : mg "isinstance" = none) (m_tuple : mg "tuple" = none) (m_len : mg "len" = none) : FnOk P w K mg base CX0 1 f fd ["thing", "many"] spTupOf := by
  refine F.ok scTupOf (fun vs H Q E h => ?_) (fun cdv A outer s H vs Q E hr h => ?_)
  · obtain ⟨a, xs, rfl, _⟩ := h
    rfl
  · obtain ⟨a, xs, rfl, e, q⟩ := h
    refine ⟨_, pss_one (ps_ret (pe_and (pe_callB call_isi (by rfl) m_isinstance (by decide +kernel) (pa_cons (pv 0) (pa_cons (pe_bltn (v := .ty "tuple") (by rfl) m_tuple (by decide +kernel) rfl) pa_nil))) (pe_one (pe_cmpR op_eq (pe_callB call_len_seq (by rfl) m_len PySem.boot_len (pa_cons (pv 0) pa_nil)) (pv 1) (nomark _))))), ?_⟩
    refine ⟨_, rfl, _, _, .type "tuple", .type "tuple", true, rfl, .ty _, .base (.tup e), kit_ty (by decide +kernel), _, rfl, iteT ?_⟩
    refine ⟨_, rfl, a, xs, rfl, .inr (.inl (.inl e)), _, rfl, rfl, ?_⟩
    rw [decide_eq_true rfl]
    exact q
theorem ok_IsNum {f : Addr} {fd : FuncData} (F : Fun K "is_number" "is_number" sIsNum f fd) (m_isinstance : mg "isinstance" = none) (m_int : mg "int" = none) (m_bool : mg "bool" = none) : FnOk P w K mg base CX0 1 f fd ["thing"] spIsNum := by
  refine F.ok scIsNum (fun vs H Q E h => ?_) (fun cdv A outer s H vs Q E hr h => ?_)
  · obtain ⟨i, rfl, _⟩ := h
    rfl
  · obtain ⟨i, rfl, h0, q⟩ := h
    refine ⟨_, pss_one (ps_ret (pe_and (pe_callB call_isi (by rfl) m_isinstance (by decide +kernel) (pa_cons (pv 0) (pa_cons (pe_bltn (v := .ty "int") (by rfl) m_int (by decide +kernel) rfl) pa_nil))) (pe_and (pe_not (pe_callB call_isi (by rfl) m_isinstance (by decide +kernel) (pa_cons (pv 0) (pa_cons (pe_bltn (v := .ty "bool") (by rfl) m_bool (by decide +kernel) rfl) pa_nil)))) (pe_one (pe_cmpR op_ge (pv 0) pe_int (nomark _)))))), ?_⟩
    refine ⟨_, rfl, _, _, .type "int", .type "int", true, rfl, .ty _, .base (.int i), kit_ty (by decide +kernel), _, rfl, iteT ?_⟩
    refine ⟨_, rfl, _, _, .type "int", .type "bool", false, rfl, .ty _, .base (.int i), kit_ty (by decide +kernel), _, rfl, _, rfl, iteT ?_⟩
    refine ⟨_, rfl, _, _, rfl, rfl, ?_⟩
    show Q (.bl (decide (0 ≤ i))) H
    rw [decide_eq_true h0]
    exact q
theorem ok_LNum {f : Addr} {fd : FuncData} (F : Fun K "_law_is_number" "_law_is_number" sLNum f fd) (m_isinstance : mg "isinstance" = none) (m_int : mg "int" = none) (m_bool : mg "bool" = none) : FnOk P w K mg base CX0 1 f fd ["_law_thing"] spIsNum := by
  refine F.ok scLNum (fun vs H Q E h => ?_) (fun cdv A outer s H vs Q E hr h => ?_)
  · obtain ⟨i, rfl, _⟩ := h
    rfl
  · obtain ⟨i, rfl, h0, q⟩ := h
    refine ⟨_, pss_one (ps_ret (pe_and (pe_callB call_isi (by rfl) m_isinstance (by decide +kernel) (pa_cons (pv 0) (pa_cons (pe_bltn (v := .ty "int") (by rfl) m_int (by decide +kernel) rfl) pa_nil))) (pe_and (pe_not (pe_callB call_isi (by rfl) m_isinstance (by decide +kernel) (pa_cons (pv 0) (pa_cons (pe_bltn (v := .ty "bool") (by rfl) m_bool (by decide +kernel) rfl) pa_nil)))) (pe_one (pe_cmpR op_ge (pv 0) pe_int (nomark _)))))), ?_⟩
    refine ⟨_, rfl, _, _, .type "int", .type "int", true, rfl, .ty _, .base (.int i), kit_ty (by decide +kernel), _, rfl, iteT ?_⟩
    refine ⟨_, rfl, _, _, .type "int", .type "bool", false, rfl, .ty _, .base (.int i), kit_ty (by decide +kernel), _, rfl, _, rfl, iteT ?_⟩
    refine ⟨_, rfl, _, _, rfl, rfl, ?_⟩
    show Q (.bl (decide (0 ≤ i))) H
    rw [decide_eq_true h0]
    exact q
end

/-! ### rows of numbers, runs, dues -/
abbrev GxJ {α : Type} (J : It) (a0 : α) (Stp : VK → GX.Stps α) (Fin : VK → α → Hp → Prop) (tc : GX.TC) (g : TG) (tt : TT) (te : Value → TE) (vs : List Nat) (σ : L2.St) (H : Hp) (Q : VK) : Prop := tc σ H fun code H2 => ∃ W : Nat → Nat → α → Hp → Prop, (∃ m, W 0 m a0 H2) ∧ GX.TurnsR (Stp Q) (Fin Q) J g tt (te code) vs σ W
theorem iseq_gx {α : Type} {a0 : α} {Stp : VK → GX.Stps α} {Fin : VK → α → Hp → Prop} {tc : GX.TC} {te : Value → TE} {Q : VK} {K : PySem.W.Frag} {H : Hp} {a : Addr} {xs : List V} {g : TG} {tt : TT} {vs : List Nat} {σ : L2.St} (h : SqH H a xs) (r : ∀ J G, Walk J xs.length G (YAt xs) → (∀ H', GX.NoTab H H' → G H') → GxJ J a0 Stp Fin tc g tt te vs σ H Q) :
    ((∃ xs, SqL K H a xs) ∧ GxJ (Itl K a) a0 Stp Fin tc g tt te vs σ H Q) ∨ ((∃ xs, SqT K H a xs) ∧ GxJ (Itt K a) a0 Stp Fin tc g tt te vs σ H Q) := by
  rcases h with e | e
  · exact .inl ⟨⟨_, SqL.of e⟩, r _ _ walk_list fun H' n => SqL.of (n.lst e)⟩
  · exact .inr ⟨⟨_, .inl (.inl e)⟩, r _ _ walk_tup fun H' n => .inl (.inl (n.tup e))⟩
theorem walk_zipTn {K : PySem.W.Frag} {a b : Addr} {xs ys : List V} {n : Nat} (hn : n = min xs.length ys.length) : Walk (RZ.ItzT K a b) n (fun H => SqT K H a xs ∧ SqT K H b ys) (YPair (fun i => xs[i]?) (fun i => ys[i]?)) := by
  subst hn
  refine ⟨fun i _ hi q => ?_, fun _ q => ⟨xs, ys, q.1, q.2, by omega⟩, fun i H v H' _ q y => ?_⟩
  · have h1 : i < xs.length := by omega
    have h2 : i < ys.length := by omega
    exact ⟨xs, ys, xs[i], ys[i], q.1, q.2, by simp [h1], by simp [h2]⟩
  · obtain ⟨T, x, z, h1, h2, h3, h4, h5⟩ := y
    exact ⟨T, x, z, h1, h2, h3, h4 xs q.1, h5 ys q.2⟩
theorem zipq_vars {K : PySem.W.Frag} {H : Hp} {a b : Addr} {xs ys : List V} {σ : L2.St} {i j : Nat} {R : It → Hp → Prop} (ei : σ[i]? = some (some (.ref a))) (ej : σ[j]? = some (some (.ref b))) (ha : SqH H a xs) (hb : SqH H b ys) (hl : xs.length = ys.length)
    (r : ∀ J G, Walk J xs.length G (YPair (fun i => xs[i]?) (fun i => ys[i]?)) → (∀ H', GX.NoTab H H' → G H') → R J H) : iZipQ K (tCons (tVar i) (tCons (tVar j) tNil)) σ H R := by
  rcases ha with e | e <;> rcases hb with e2 | e2
  · exact .inl ⟨_, ei, _, ej, a, b, xs, ys, rfl, .inl ⟨SqL.of e, SqL.of e2, r _ _ (walk_zip (by omega)) fun H' n => ⟨SqL.of (n.lst e), SqL.of (n.lst e2)⟩⟩⟩
  · exact .inr (.inl ⟨_, ei, _, ej, a, b, xs, ys, rfl, .inr ⟨SqL.of e, .inl (.inl e2), r _ _ (walk_zipM hl) fun H' n => ⟨SqL.of (n.lst e), .inl (.inl (n.tup e2))⟩⟩⟩)
  · exact .inr (.inr ⟨_, ei, _, ej, a, b, xs, ys, rfl, .inl (.inl e), SqL.of e2, r _ _ (walk_zipN hl) fun H' n => ⟨.inl (.inl (n.tup e)), SqL.of (n.lst e2)⟩⟩)
  · exact .inl ⟨_, ei, _, ej, a, b, xs, ys, rfl, .inr ⟨.inl (.inl e), .inl (.inl e2), r _ _ (walk_zipTn (by omega)) fun H' n => ⟨.inl (.inl (n.tup e)), .inl (.inl (n.tup e2))⟩⟩⟩
theorem for_enQ {K : PySem.W.Frag} {a : Addr} {xs : List V} {g : TG} {tb : TS} {D : Ends} {σ : L2.St} {H0 : Hp} (hq : SqH H0 a xs) (Pv : Nat → L2.St → Hp → Prop) (h0 : Pv 0 σ H0) (hl : ∀ i σ H', Pv i σ H' → GX.NoTab H0 H')
    (turn : ∀ i x T σ H, xs[i]? = some x → Pv i σ H → H T = none → g (.ref T) σ (upd H T (.tup [.int (i : Nat), x])) fun σ2 H2 => tb { D with nx := Pv (i + 1), ct := Pv (i + 1), bk := D.nx } σ2 H2) (fin : ∀ σ H, Pv xs.length σ H → D.nx σ H) :
    ((∃ xs, SqL K H0 a xs) ∧ ForR (Ite K a) g tb D σ H0) ∨ ((∃ xs, SqT K H0 a xs) ∧ ForR (IteT K a) g tb D σ H0) := by
  have tn : ∀ i v σ H H', i < xs.length → Pv i σ H → YPair (fun i => some (.int (i : Nat))) (fun i => xs[i]?) i H v H' → g v σ H' fun σ2 H2 => tb { D with nx := Pv (i + 1), ct := Pv (i + 1), bk := D.nx } σ2 H2 := by
    rintro i v σ H H' _ hp ⟨T, x, y, rfl, nT, rfl, e1, e2⟩
    cases e1
    exact turn i y T σ H e2 hp nT
  rcases hq with h | h
  · exact .inl ⟨⟨xs, SqL.of h⟩, for_it walk_enum Pv h0 (fun i σ H' _ p => SqL.of ((hl i σ H' p).lst h)) tn fin⟩
  · exact .inr ⟨⟨xs, .inl (.inl h)⟩, for_it walk_enT Pv h0 (fun i σ H' _ p => .inl (.inl ((hl i σ H' p).tup h))) tn fin⟩
theorem preSum_sum {α : Type} {g : α → Int} {l : List α} {v : Nat → Int} (h : ∀ (i : Nat) x, l[i]? = some x → v i = g x) : ∀ n, n ≤ l.length → preSum v n = ((l.take n).map g).sum
  | 0, _ => by rw [List.take_zero]; rfl
  | n + 1, hn => by
    have e : l[n]? = some l[n] := List.getElem?_eq_getElem (by omega)
    have hv := h n _ e
    show preSum v n + v n = _
    rw [preSum_sum h n (by omega), List.take_add_one, e, hv, List.map_append, List.sum_append]
    simp
def spNums (K : PySem.W.Frag) (Ms : GX.Mq) (Xs : List Addr) (Pn : Addr) : Sp := fun vs H Q _ => ∃ (a : Addr) (ns : List Int), vs = [.ref a] ∧ IntsQ H a ns ∧ (∀ x ∈ ns, 0 ≤ x) ∧ GX.TQ Ms Xs H ∧ Pn ∈ Ms ∧ ∀ H2, GX.NoTab H H2 → GX.TQ Ms Xs H2 → Q (.bl true) H2
def spRising (K : PySem.W.Frag) (Ms : GX.Mq) (Xs : List Addr) (Pn Pr : Addr) : Sp := fun vs H Q _ => ∃ (a : Addr) (ns : List Int), vs = [.ref a] ∧ IntsQ H a ns ∧ (∀ x ∈ ns, 0 ≤ x) ∧ ns.Pairwise (· < ·) ∧ GX.TQ Ms Xs H ∧ Pn ∈ Ms ∧ Pr ∈ Ms ∧ ∀ H2, GX.NoTab H H2 → GX.TQ Ms Xs H2 → Q (.bl true) H2
def spBelow (K : PySem.W.Frag) (Ms : GX.Mq) (Xs : List Addr) (Pn Pr Pb : Addr) : Sp := fun vs H Q _ => ∃ (a : Addr) (ns : List Int) (m : Int), vs = [.ref a, .int m] ∧ IntsQ H a ns ∧ (∀ x ∈ ns, 0 ≤ x ∧ x < m) ∧ ns.Pairwise (· < ·) ∧ GX.TQ Ms Xs H ∧ Pn ∈ Ms ∧ Pr ∈ Ms ∧ Pb ∈ Ms ∧ ∀ H2, GX.NoTab H H2 → GX.TQ Ms Xs H2 → Q (.bl true) H2
def spEach (K : PySem.W.Frag) (Ms : GX.Mq) (Xs : List Addr) (Pe : Addr) : Sp := fun vs H Q _ => ∃ (a b : Addr) (rs : List (Int × Int)) (ns : List Int), vs = [.ref a, .ref b] ∧ LsQ H a rs ∧ IntsQ H b ns ∧ (∀ r ∈ rs, ∃ p ∈ ns, inR r p) ∧ GX.TQ Ms Xs H ∧ Pe ∈ Ms ∧ ∀ H2, GX.NoTab H H2 → GX.TQ Ms Xs H2 → Q (.bl true) H2
def spPay (K : PySem.W.Frag) (Ms : GX.Mq) (Xs : List Addr) (Py : Addr) : Sp := fun vs H Q _ => ∃ (a b c : Addr) (ps : List Int) (rs : List (Int × Int)) (ds : List Int), vs = [.ref a, .ref b, .ref c] ∧ IntsQ H a ps ∧ LsQ H b rs ∧ IntsQ H c ds ∧ ds.length = rs.length ∧ (∀ p : Int, 0 ≤ p → p < ps.length → paidF (rs.zip ds) p ≤ prF ps p) ∧ GX.TQ Ms Xs H ∧ Py ∈ Ms ∧ ∀ H2, GX.NoTab H H2 → GX.TQ Ms Xs H2 → Q (.bl true) H2
abbrev sNums : Stmt := topS 9
theorem scNums : FnScope ["thing", "one"] ["thing"] (defScope sNums) := ⟨rfl, rfl, rfl, by decide +kernel, rfl, by decide +kernel, by decide +kernel⟩
abbrev sRising : Stmt := topS 10
theorem scRising : FnScope ["thing", "one", "other"] ["thing"] (defScope sRising) := ⟨rfl, rfl, rfl, by decide +kernel, rfl, by decide +kernel, by decide +kernel⟩
abbrev sBelow : Stmt := topS 11
theorem scBelow : FnScope ["thing", "many", "one"] ["thing", "many"] (defScope sBelow) := ⟨rfl, rfl, rfl, by decide +kernel, rfl, by decide +kernel, by decide +kernel⟩
abbrev sEach : Stmt := topS 18
theorem scEach : FnScope ["runs", "numbers", "first", "last", "number"] ["runs", "numbers"] (defScope sEach) := ⟨rfl, rfl, rfl, by decide +kernel, rfl, by decide +kernel, by decide +kernel⟩
abbrev sPay : Stmt := topS 19
theorem scPay : FnScope ["prices", "runs", "dues", "price", "place", "run", "due"] ["prices", "runs", "dues"] (defScope sPay) := ⟨rfl, rfl, rfl, by decide +kernel, rfl, by decide +kernel, by decide +kernel⟩
section
variable {K : PySem.W.Frag} {mg : Str → Option Value} {P : Program} {w : World} {base : Heap} {Pn Pr Pb Pe Py : Addr}
theorem ok_Nums {Ms : GX.Mq} {Xs : List Addr} {f c Pn : Addr} {oc kV doc pm ct : Value} {od an : Option Addr} {osl : Array (Option Value)} (lk : K.lookup f = some ⟨oc, od, .func (PySem.W.fnOf "are_numbers" "are_numbers" (defArgs sNums) (defBody sNums) (defScope sNums) .none kV doc pm an (.ref c) ct), osl⟩) (hcd : PySem.W.codeIn K (.ref c) "are_numbers" = true) (TG : GxR.TabB base mg c Pn) (C_is_row : Cal P w K mg base 1 "is_row" ["thing"] spIsRow) (C_is_number : Cal P w K mg base 1 "is_number" ["thing"] spIsNum) (m_all : mg "all" = none) : FnOk P w K mg base CX0 5 f (PySem.W.fnOf "are_numbers" "are_numbers" (defArgs sNums) (defBody sNums) (defScope sNums) .none kV doc pm an (.ref c) ct) ["thing"] (spNums K Ms Xs Pn) := by
  refine fn_of lk hcd scNums (fun vs H Q E h => ?_) (fun A outer s H vs Q E hr h => ?_)
  · obtain ⟨a, ns, rfl, _⟩ := h
    rfl
  · obtain ⟨a, ns, rfl, hA, h0, hT, hP, q⟩ := h
    refine ⟨_, PSs.nox (pss_one (ps_ret (pe_and (pe_own C_is_row (hr.mono (show 1 ≤ 4 by decide)) (by rfl) (pa_cons (pv 0) pa_nil)) (pe_one (GX.pe_allX (k := 1) (own := [("one", 1)]) (te := fun code1 => (tCall spIsNum [] E0 (tCons (tVar 1) tNil))) (g' := (gName 1)) (tt := tYes) hr scNums.nd (by rfl) m_all TG.bm (pi_seq (pv 0)) (GX.pc_own (Ms := Ms) (Xs := Xs) TG rfl) (GX.gok_by (own := [("one", 1)]) (N := ["thing", "one"]) (sc := defScope sNums) (by decide +kernel)) (fun _ _ _ _ _ r1 gd1 => (pg_name (i := 1) scNums.nd rfl (.inl rfl))) (fun _ _ _ _ _ r1 gd1 => pts_nil) (fun _ _ _ code1 _ r1 gd1 => (pe_own C_is_number r1 (by rfl) (pa_cons (pv 1) pa_nil)))))))), ?_⟩
    refine ⟨_, rfl, a, _, rfl, hA, fun H1 s1 => ⟨_, rfl, iteT ?_⟩⟩
    have n1 := NoTab.same s1
    refine ⟨_, rfl, a, rfl, iseq_gx (hA.noTab n1) fun J G wk hG => ⟨hT.same s1, hP, fun H2 c' P' n2 t2 nX eC tG => GX.turns_all wk (fun _ => true) (fun Hx => GX.NoTab H1 Hx ∧ GX.TQ Ms Xs Hx) ⟨n2, t2⟩ (fun Hx iv => hG Hx iv.1) (fun i x Hx Hx' Kt Kn hi iv hy kt _ => ?_) (fun H3 b iv hb => ?_)⟩⟩
    · obtain ⟨rfl, hx⟩ := hy
      rw [List.getElem?_map] at hx
      obtain ⟨p, ep, rfl⟩ := Option.map_eq_some_iff.mp hx
      exact ⟨rfl, _, rfl, p, rfl, h0 p (List.mem_of_getElem? ep), kt _ iv⟩
    · rw [hb.mpr fun _ _ => rfl]
      exact q H3 (n1.trans iv.1) iv.2
theorem ok_Rising {Ms : GX.Mq} {Xs : List Addr} {f c Pr : Addr} {oc kV doc pm ct : Value} {od an : Option Addr} {osl : Array (Option Value)} (lk : K.lookup f = some ⟨oc, od, .func (PySem.W.fnOf "are_rising" "are_rising" (defArgs sRising) (defBody sRising) (defScope sRising) .none kV doc pm an (.ref c) ct), osl⟩) (hcd : PySem.W.codeIn K (.ref c) "are_rising" = true) (TG : GxR.TabB base mg c Pr) (C_are_numbers : Cal P w K mg base 5 "are_numbers" ["thing"] (spNums K Ms Xs Pn)) (m_all : mg "all" = none) (m_zip : mg "zip" = none) : FnOk P w K mg base CX0 6 f (PySem.W.fnOf "are_rising" "are_rising" (defArgs sRising) (defBody sRising) (defScope sRising) .none kV doc pm an (.ref c) ct) ["thing"] (spRising K Ms Xs Pn Pr) := by
  refine fn_of lk hcd scRising (fun vs H Q E h => ?_) (fun A outer s H vs Q E hr h => ?_)
  · obtain ⟨a, ns, rfl, _⟩ := h
    rfl
  · obtain ⟨a, ns, rfl, hA, h0, hI, hT, hPn, hP, q⟩ := h
    refine ⟨_, PSs.nox (pss_one (ps_ret (pe_and (pe_own C_are_numbers hr (by rfl) (pa_cons (pv 0) pa_nil)) (pe_one (GX.pe_allX (k := 2) (own := [("one", 1), ("other", 2)]) (te := fun code1 => (tOp (rI0 fun i j => .bl (decide (i < j))) (tVar 1) (tVar 2))) (g' := (gTup K 2 (gCons (gName 1) (gCons (gName 2) gNil)))) (tt := tYes) hr scRising.nd (by rfl) m_all TG.bm (pi_zipQ (by rfl) m_zip (pa_cons (pv 0) (pa_cons (pe_slice sl_seq (pv 0) (po_some pe_int) po_none) pa_nil))) (GX.pc_own (Ms := Ms) (Xs := Xs) TG rfl) (GX.gok_by (own := [("one", 1), ("other", 2)]) (N := ["thing", "one", "other"]) (sc := defScope sRising) (by decide +kernel)) (fun _ _ _ _ _ r1 gd1 => (pg_tup rfl (pgs_cons (pg_name (i := 1) scRising.nd rfl (.inl rfl)) (pgs_cons (pg_name (i := 2) scRising.nd rfl (.inl rfl)) pgs_nil)))) (fun _ _ _ _ _ r1 gd1 => pts_nil) (fun _ _ _ code1 _ r1 gd1 => (pe_cmpR op_lt (pv 1) (pv 2) (nomark _)))))))), ?_⟩
    refine ⟨_, rfl, a, ns, rfl, hA, h0, hT, hPn, fun H1 n1 t1 => ⟨_, rfl, iteT ?_⟩⟩
    have hA1 := hA.noTab n1
    have lx : (ns.map V.int).length = ns.length := List.length_map ..
    have main : ∀ (J : It) (G : Hp → Prop) (H0 : Hp), GX.NoTab H1 H0 → GX.TQ Ms Xs H0 → Walk J (ns.length - 1) G (YPair (fun i => (ns.map V.int)[i]?) (fun i => ((ns.map V.int).drop 1)[i]?)) → (∀ H', GX.NoTab H0 H' → G H') →
        GxJ J () GX.stAll GX.fiAll (GX.tCo Ms Xs Pr) (gTup K 2 (gCons (gName 1) (gCons (gName 2) gNil))) tYes (fun _ => tOp (rI0 fun i j => .bl (decide (i < j))) (tVar 1) (tVar 2)) (List.map (fun x => x.2) [(("one" : Str), 1), (("other" : Str), 2)]) (L2.start ["thing", "one", "other"] [.ref a]) H0 Q := fun J G H0 nx tx wk hG => by
      refine ⟨tx, hP, fun H2 c' P' n2 t2 nX eC tG => GX.turns_all wk (fun _ => true) (fun Hx => GX.NoTab H0 Hx ∧ GX.TQ Ms Xs Hx) ⟨n2, t2⟩ (fun Hx iv => hG Hx iv.1) (fun i x Hx Hx' Kt Kn hi iv hy kt _ => ?_) (fun H3 b iv hb => ?_)⟩
      · obtain ⟨T, u, v, rfl, nT, rfl, e1, e2⟩ := hy
        have l1 : i < ns.length := by omega
        have l2 : i + 1 < ns.length := by omega
        have e1 : (ns.map V.int)[i]? = some u := e1
        have e2 : ((ns.map V.int).drop 1)[i]? = some v := e2
        rw [List.getElem?_map, List.getElem?_eq_getElem l1] at e1
        rw [List.getElem?_drop, List.getElem?_map, show 1 + i = i + 1 by omega, List.getElem?_eq_getElem l2] at e2
        cases e1
        cases e2
        have lt : ns[i] < ns[i + 1] := List.pairwise_iff_getElem.mp hI i (i + 1) l1 l2 (by omega)
        have sT := same_upd (o := .tup [.int ns[i], .int ns[i + 1]]) nT
        refine ⟨T, _, rfl, .inl (.inl upd_same), rfl, _, _, rfl, _, _, rfl, rfl, rfl, _, rfl, _, rfl, _, _, rfl, rfl, ?_⟩
        have := kt _ ⟨iv.1.trans (NoTab.same sT), iv.2.same sT⟩
        rw [← decide_eq_true lt] at this
        exact this
      · rw [hb.mpr fun _ _ => rfl]
        exact q H3 ((n1.trans nx).trans iv.1) iv.2
    have ld : ((ns.map V.int).drop 1).length = ns.length - 1 := by rw [List.length_drop, lx]
    refine .inl ⟨_, rfl, _, rfl, _, rfl, rSlQ.tail hA1 fun p H0 s0 c => ?_⟩
    have nx := NoTab.same s0
    have tx := t1.same s0
    rcases c with ⟨e1, e2⟩ | ⟨e1, e2⟩
    · have e1' := s0 _ _ e1
      exact ⟨a, p, _, _, rfl, .inl ⟨SqL.of e1', SqL.of e2, main _ _ H0 nx tx (walk_zip (by rw [ld, lx]; omega)) fun H' n => ⟨SqL.of (n.lst e1'), SqL.of (n.lst e2)⟩⟩⟩
    · have e1' := s0 _ _ e1
      exact ⟨a, p, _, _, rfl, .inr ⟨.inl (.inl e1'), .inl (.inl e2), main _ _ H0 nx tx (walk_zipTn (by rw [ld, lx]; omega)) fun H' n => ⟨.inl (.inl (n.tup e1')), .inl (.inl (n.tup e2))⟩⟩⟩
theorem ok_Below {Ms : GX.Mq} {Xs : List Addr} {f c Pb : Addr} {oc kV doc pm ct : Value} {od an : Option Addr} {osl : Array (Option Value)} (lk : K.lookup f = some ⟨oc, od, .func (PySem.W.fnOf "are_rising_below" "are_rising_below" (defArgs sBelow) (defBody sBelow) (defScope sBelow) .none kV doc pm an (.ref c) ct), osl⟩) (hcd : PySem.W.codeIn K (.ref c) "are_rising_below" = true) (TG : GxR.TabB base mg c Pb) (C_are_rising : Cal P w K mg base 6 "are_rising" ["thing"] (spRising K Ms Xs Pn Pr)) (m_all : mg "all" = none) : FnOk P w K mg base CX0 7 f (PySem.W.fnOf "are_rising_below" "are_rising_below" (defArgs sBelow) (defBody sBelow) (defScope sBelow) .none kV doc pm an (.ref c) ct) ["thing", "many"] (spBelow K Ms Xs Pn Pr Pb) := by
  refine fn_of lk hcd scBelow (fun vs H Q E h => ?_) (fun A outer s H vs Q E hr h => ?_)
  · obtain ⟨a, ns, m, rfl, _⟩ := h
    rfl
  · obtain ⟨a, ns, m, rfl, hA, h0, hI, hT, hPn, hPr, hP, q⟩ := h
    refine ⟨_, PSs.nox (pss_one (ps_ret (pe_and (pe_own C_are_rising hr (by rfl) (pa_cons (pv 0) pa_nil)) (pe_one (GX.pe_allX (k := 3) (own := [("one", 2)]) (te := fun code1 => (tOp (rI0 fun i j => .bl (decide (i < j))) (tVar 2) (tVar 1))) (g' := (gName 2)) (tt := tYes) hr scBelow.nd (by rfl) m_all TG.bm (pi_seq (pv 0)) (GX.pc_own (Ms := Ms) (Xs := Xs) TG rfl) (GX.gok_by (own := [("one", 2)]) (N := ["thing", "many", "one"]) (sc := defScope sBelow) (by decide +kernel)) (fun _ _ _ _ _ r1 gd1 => (pg_name (i := 2) scBelow.nd rfl (.inl rfl))) (fun _ _ _ _ _ r1 gd1 => pts_nil) (fun _ _ _ code1 _ r1 gd1 => (pe_cmpR op_lt (pv 2) (pv 1) (nomark _)))))))), ?_⟩
    refine ⟨_, rfl, a, ns, rfl, hA, fun x hx => (h0 x hx).1, hI, hT, hPn, hPr, fun H1 n1 t1 => ⟨_, rfl, iteT ?_⟩⟩
    refine ⟨_, rfl, a, rfl, iseq_gx (hA.noTab n1) fun J G wk hG => ⟨t1, hP, fun H2 c' P' n2 t2 nX eC tG => GX.turns_all wk (fun _ => true) (fun Hx => GX.NoTab H1 Hx ∧ GX.TQ Ms Xs Hx) ⟨n2, t2⟩ (fun Hx iv => hG Hx iv.1) (fun i x Hx Hx' Kt Kn hi iv hy kt _ => ?_) (fun H3 b iv hb => ?_)⟩⟩
    · obtain ⟨rfl, hx⟩ := hy
      rw [List.getElem?_map] at hx
      obtain ⟨p, ep, rfl⟩ := Option.map_eq_some_iff.mp hx
      refine ⟨rfl, _, rfl, _, rfl, _, _, rfl, rfl, ?_⟩
      have := kt Hx' iv
      rw [← decide_eq_true (h0 p (List.mem_of_getElem? ep)).2] at this
      exact this
    · rw [hb.mpr fun _ _ => rfl]
      exact q H3 (n1.trans iv.1) iv.2
theorem ok_Each {Ms : GX.Mq} {Xs : List Addr} {f c Pe : Addr} {oc kV doc pm ct : Value} {od an : Option Addr} {osl : Array (Option Value)} (lk : K.lookup f = some ⟨oc, od, .func (PySem.W.fnOf "each_has_one" "each_has_one" (defArgs sEach) (defBody sEach) (defScope sEach) .none kV doc pm an (.ref c) ct), osl⟩) (hcd : PySem.W.codeIn K (.ref c) "each_has_one" = true) (TG : GxR.TabB base mg c Pe) (m_all : mg "all" = none) (m_any : mg "any" = none) : FnOk P w K mg base CX0 8 f (PySem.W.fnOf "each_has_one" "each_has_one" (defArgs sEach) (defBody sEach) (defScope sEach) .none kV doc pm an (.ref c) ct) ["runs", "numbers"] (spEach K Ms Xs Pe) := by
  refine fn_of lk hcd scEach (fun vs H Q E h => ?_) (fun A outer s H vs Q E hr h => ?_)
  · obtain ⟨a, b, rs, ns, rfl, _⟩ := h
    rfl
  · obtain ⟨a, b, rs, ns, rfl, hA, hB, hh, hT, hP, q⟩ := h
    refine ⟨_, PSs.nox (pss_one (ps_ret (GX.pe_allX (k := 4) (own := [("first", 2), ("last", 3)]) (te := fun code1 => (GX.tGx () GX.stAny GX.fiAny (GX.tCj Ms Xs code1) (iSeq K (tVar 1)) (gName 4) tYes (fun code2 => (tChain (rI0 fun i j => .bl (decide (i ≤ j))) (rI0 fun i j => .bl (decide (i ≤ j))) (tVar 2) (tVar 4) (tVar 3))) (List.map (fun x => x.2) [("number", 4)]))) (g' := (gTup K 2 (gCons (gName 2) (gCons (gName 3) gNil)))) (tt := tYes) hr scEach.nd (by rfl) m_all TG.bm (pi_seq (pv 0)) (GX.pc_own (Ms := Ms) (Xs := Xs) TG rfl) (GX.gok_by (own := [("first", 2), ("last", 3)]) (N := ["runs", "numbers", "first", "last", "number"]) (sc := defScope sEach) (by decide +kernel)) (fun _ _ _ _ _ r1 gd1 => (pg_tup rfl (pgs_cons (pg_name (i := 2) scEach.nd rfl (.inr rfl)) (pgs_cons (pg_name (i := 3) scEach.nd rfl (.inr rfl)) pgs_nil)))) (fun _ _ _ _ _ r1 gd1 => pts_nil) (fun _ _ _ code1 _ r1 gd1 => (GX.pe_anyX (k := 1) (own := [("number", 4)]) (te := fun code2 => (tChain (rI0 fun i j => .bl (decide (i ≤ j))) (rI0 fun i j => .bl (decide (i ≤ j))) (tVar 2) (tVar 4) (tVar 3))) (g' := (gName 4)) (tt := tYes) r1 scEach.nd (by rfl) m_any TG.bm (pi_seq (pv 1)) (GX.pc_in (Ms := Ms) (Xs := Xs) (code := code1) rfl) (GX.gok_by (own := [("number", 4)]) (N := ["runs", "numbers", "first", "last", "number"]) (by show GX.gokB _ ({ kind := .function, names := [(".0", .local), ("first", .cell), ("last", .cell), ("numbers", .free), ("any", .globalImplicit)], isGenerator := true, isCoroutine := false } : Scope) _ _ = true; decide +kernel)) (fun _ _ _ _ _ r2 gd2 => (pg_name (i := 4) scEach.nd rfl (.inl rfl))) (fun _ _ _ _ _ r2 gd2 => pts_nil) (fun _ _ _ code2 _ r2 gd2 => (pe_chain op_le op_le (pv 2) (pv 4) (pv 3)))))))), ?_⟩
    obtain ⟨us, eA, pr⟩ := id hA
    refine ⟨_, rfl, a, rfl, iseq_gx eA fun J G wk hG => ⟨hT, hP, fun H2 c' P' n2 t2 nX eC tG => GX.turns_all wk (fun _ => true) (fun Hx => GX.NoTab H2 Hx ∧ GX.TQ Ms Xs Hx ∧ GxR.TabG Hx P') ⟨GX.NoTab.refl _, t2, tG⟩ (fun Hx iv => hG Hx (n2.trans iv.1)) (fun i x Hx Hx' Kt Kn hi iv hy kt _ => ?_) (fun Hx bb iv hb => ?_)⟩⟩
    · obtain ⟨rfl, hx⟩ := hy
      obtain ⟨n3, t3, g3⟩ := iv
      obtain ⟨r, T, er, rfl, eT⟩ := prs_at pr hx
      have eTx := n3.tup (n2.tup eT)
      refine ⟨T, _, rfl, .inl (.inl eTx), rfl, _, _, rfl, _, _, rfl, rfl, rfl, ?_⟩
      obtain ⟨p, hp, hr⟩ := hh r (List.mem_of_getElem? er)
      refine ⟨_, rfl, b, rfl, iseq_gx (hB.noTab (n2.trans n3)) fun J2 G2 wk2 hG2 => ⟨c', P', rfl, n3.code eC, nX, g3, t3, fun H4 code4 n4 t4 g4 => GX.turns_any wk2 (fun j => decide (r.1 ≤ ns.getD j 0) && decide (ns.getD j 0 ≤ r.2)) (fun Hy => GX.NoTab Hx' Hy ∧ GX.TQ Ms Xs Hy ∧ GxR.TabG Hy P') ⟨n4, t4, g4⟩ (fun Hy iv => hG2 Hy iv.1) (fun j y Hy Hy' Kt2 Kn2 hj iv2 hy2 kt2 _ => ?_) (fun Hy b2 iv2 hb2 => ?_)⟩⟩
      · obtain ⟨rfl, hx2⟩ := hy2
        rw [List.getElem?_map] at hx2
        obtain ⟨n, en, rfl⟩ := Option.map_eq_some_iff.mp hx2
        have e : ns.getD j 0 = n := by rw [List.getD_eq_getElem?_getD, en]; rfl
        rw [e] at kt2
        refine ⟨rfl, _, rfl, _, rfl, _, _, rfl, rfl, _, rfl, ite2 (fun c1 => ⟨_, rfl, _, _, rfl, rfl, ?_⟩) (fun c1 => ?_)⟩
        · rw [c1] at kt2
          exact kt2 _ iv2
        · rw [Bool.eq_false_iff.mpr c1] at kt2
          exact kt2 _ iv2
      · have e2 : b2 = true := hb2.mpr (by
          obtain ⟨j, hj, e⟩ := List.getElem_of_mem hp
          refine ⟨j, by rw [List.length_map]; exact hj, ?_⟩
          rw [List.getD_eq_getElem?_getD, List.getElem?_eq_getElem hj]
          show (decide (r.1 ≤ ns[j]) && decide (ns[j] ≤ r.2)) = true
          rw [e, decide_eq_true hr.1, decide_eq_true hr.2]
          rfl)
        rw [e2]
        exact kt Hy ⟨n3.trans iv2.1, iv2.2.1, iv2.2.2⟩
    · rw [hb.mpr fun _ _ => rfl]
      exact q Hx (n2.trans iv.1) iv.2.1
theorem ok_Pay {Ms : GX.Mq} {Xs : List Addr} {f c Py : Addr} {oc kV doc pm ct : Value} {od an : Option Addr} {osl : Array (Option Value)} (lk : K.lookup f = some ⟨oc, od, .func (PySem.W.fnOf "are_payable" "are_payable" (defArgs sPay) (defBody sPay) (defScope sPay) .none kV doc pm an (.ref c) ct), osl⟩) (hcd : PySem.W.codeIn K (.ref c) "are_payable" = true) (TG : GxR.TabB base mg c Py) (m_enumerate : mg "enumerate" = none) (m_sum : mg "sum" = none) (m_zip : mg "zip" = none) : FnOk P w K mg base CX0 5 f (PySem.W.fnOf "are_payable" "are_payable" (defArgs sPay) (defBody sPay) (defScope sPay) .none kV doc pm an (.ref c) ct) ["prices", "runs", "dues"] (spPay K Ms Xs Py) := by
  refine fn_of lk hcd scPay (fun vs H Q E h => ?_) (fun A outer s H vs Q E hr h => ?_)
  · obtain ⟨a, b, c0, ps, rs, ds, rfl, _⟩ := h
    rfl
  · obtain ⟨a, b, c0, ps, rs, ds, rfl, hA, hB, hC, hl, hpay, hT, hP, q⟩ := h
    refine ⟨_, PSs.nox (pss_cons (ps_for PassesOwn.never rfl (pi_enS (by rfl) m_enumerate (pa_cons (pv 0) pa_nil)) (pg_tup rfl (pgs_cons (pg_name (i := 4) scPay.nd rfl (.inr rfl)) (pgs_cons (pg_name (i := 3) scPay.nd rfl (.inl rfl)) pgs_nil)))
        (pss_one (ps_if (pt_cmpR op_gt (GX.pe_sumX (k := 1) (own := [("run", 5), ("due", 6)]) (te := fun code1 => (tVar 6)) (g' := (gTup K 2 (gCons (gName 5) (gCons (gName 6) gNil)))) (tt := (tTest (tChain (rI0 fun i j => .bl (decide (i ≤ j))) (rI0 fun i j => .bl (decide (i ≤ j))) (tOp (rIxT K) (tVar 5) (tC (.int 0))) (tVar 4) (tOp (rIxT K) (tVar 5) (tC (.int 1)))))) hr scPay.nd (by rfl) m_sum TG.bm (pi_zipQ (by rfl) m_zip (pa_cons (pv 1) (pa_cons (pv 2) pa_nil))) (GX.pc_own (Ms := Ms) (Xs := Xs) TG rfl) (GX.gok_by (own := [("run", 5), ("due", 6)]) (N := ["prices", "runs", "dues", "price", "place", "run", "due"]) (sc := defScope sPay) (by decide +kernel)) (fun _ _ _ _ _ r1 gd1 => (pg_tup rfl (pgs_cons (pg_name (i := 5) scPay.nd rfl (.inl rfl)) (pgs_cons (pg_name (i := 6) scPay.nd rfl (.inl rfl)) pgs_nil)))) (fun _ _ _ _ _ r1 gd1 => (pts_one (pt_chain op_le op_le (pe_ix ix_tup (pv 5) pe_int (fun _ _ => rfl)) (pv 4) (pe_ix ix_tup (pv 5) pe_int (fun _ _ => rfl))))) (fun _ _ _ code1 _ r1 gd1 => (pv 6))) (pv 3) (nomark _)) (pss_one (ps_ret pe_bl))
          pss_nil)))
      (pss_one (ps_ret pe_bl))), ?_⟩
    obtain ⟨us, eB, pr⟩ := id hB
    have lus : us.length = rs.length := pr.1
    have lds : (ds.map V.int).length = ds.length := List.length_map ..
    refine ⟨_, rfl, a, rfl, for_enQ hA (fun i σ Hx => ∃ y3 y4 y5 y6 : Option V, σ = [some (.ref a), some (.ref b), some (.ref c0), y3, y4, y5, y6] ∧ GX.NoTab H Hx ∧ GX.TQ Ms Xs Hx) ⟨_, _, _, _, rfl, GX.NoTab.refl _, hT⟩ (fun i σ Hx hP => ?_) (fun i x T σ Hx hx hP1 nT => ?_) (fun σ Hx hP => ?_)⟩
    · obtain ⟨y3, y4, y5, y6, rfl, nx, tx⟩ := hP
      exact nx
    · obtain ⟨y3, y4, y5, y6, rfl, nx, tx⟩ := hP1
      rw [List.getElem?_map] at hx
      obtain ⟨pv, epv, rfl⟩ := Option.map_eq_some_iff.mp hx
      have li : i < ps.length := (List.getElem?_eq_some_iff.mp epv).1
      have sT := same_upd (o := .tup [.int (i : Nat), .int pv]) nT
      refine ⟨T, _, rfl, .inl (.inl upd_same), rfl, _, _, rfl, _, _, rfl, rfl, ?_⟩
      have n1 := nx.trans (NoTab.same sT)
      have t1 := tx.same sT
      generalize upd Hx T (.tup [.int (i : Nat), .int pv]) = H1 at n1 t1
      refine zipq_vars rfl rfl (eB.noTab n1) (hC.noTab n1) (by rw [lus, lds, hl]) fun J G wk hG => ⟨t1, hP, fun H2 c' P' n2 t2 nX eC tG => GX.turns_sum wk (fun j => if inR (rs.getD j (0, 0)) (i : Int) then ds.getD j 0 else 0) (fun Hy => GX.NoTab H1 Hy ∧ GX.TQ Ms Xs Hy) ⟨n2, t2⟩ (fun Hy iv => hG Hy iv.1) (fun j z Hy Hy' Kt Kn hj iv hy kt kn => ?_) (fun H3 iv => ?_)⟩
      · obtain ⟨T2, u, v, rfl, nT2, rfl, e1, e2⟩ := hy
        have e1 : us[j]? = some u := e1
        have e2 : (ds.map V.int)[j]? = some v := e2
        rw [List.getElem?_map] at e2
        obtain ⟨dv, edv, rfl⟩ := Option.map_eq_some_iff.mp e2
        obtain ⟨r, T3, er, rfl, eT3⟩ := prs_at pr e1
        have sT2 := same_upd (o := .tup [.ref T3, .int dv]) nT2
        have iv2 : GX.NoTab H1 (upd Hy T2 (.tup [.ref T3, .int dv])) ∧ GX.TQ Ms Xs (upd Hy T2 (.tup [.ref T3, .int dv])) := ⟨iv.1.trans (NoTab.same sT2), iv.2.same sT2⟩
        have eT3' := sT2 _ _ (iv.1.tup (n1.tup eT3))
        have ev : (if inR (rs.getD j (0, 0)) (i : Int) then ds.getD j 0 else 0) = if inR r (i : Int) then dv else 0 := by
          rw [List.getD_eq_getElem?_getD, List.getD_eq_getElem?_getD, er, edv]
          rfl
        rw [ev] at kt kn
        refine ⟨T2, _, rfl, .inl (.inl upd_same), rfl, _, _, rfl, _, _, rfl, rfl, rfl, ?_⟩
        refine ⟨_, rfl, T3, _, 0, _, rfl, rfl, .inl (.inl eT3'), atI_nat (j := 0) rfl, _, rfl, _, _, rfl, rfl, _, rfl, ite2 (fun c1 => ?_) (fun c1 => ?_)⟩
        · have c1 : r.1 ≤ (i : Int) := of_decide_eq_true c1
          refine ⟨_, rfl, T3, _, 1, _, rfl, rfl, .inl (.inl eT3'), atI_nat (j := 1) rfl, _, _, rfl, rfl, _, rfl, ite2 (fun c2 => ?_) (fun c2 => ?_)⟩
          · have c2 : (i : Int) ≤ r.2 := of_decide_eq_true c2
            rw [if_pos ⟨c1, c2⟩] at kt
            exact ⟨_, rfl, kt _ iv2⟩
          · have c2 : ¬ (i : Int) ≤ r.2 := fun z => c2 (decide_eq_true z)
            exact kn (if_neg fun z => c2 z.2) _ iv2
        · have c1 : ¬ r.1 ≤ (i : Int) := fun z => c1 (decide_eq_true z)
          exact ⟨false, rfl, iteF (kn (if_neg fun z => c1 z.1) _ iv2)⟩
      · have es : preSum (fun j => if inR (rs.getD j (0, 0)) (i : Int) then ds.getD j 0 else 0) us.length = paidF (rs.zip ds) (i : Int) := by
          have lz : us.length = (rs.zip ds).length := by rw [List.length_zip, hl, Nat.min_self, lus]
          rw [lz, preSum_sum (g := fun x : (Int × Int) × Int => if inR x.1 (i : Int) then x.2 else 0) (l := rs.zip ds) (fun j x e => ?_) _ (Nat.le_refl _), List.take_length]
          · rfl
          · obtain ⟨a1, a2⟩ := List.getElem?_zip_eq_some.mp e
            rw [List.getD_eq_getElem?_getD, List.getD_eq_getElem?_getD, a1, a2]
            rfl
        rw [es]
        have hp := hpay (i : Int) (by omega) (by omega)
        have epr : prF ps (i : Int) = pv := cF_at (by rw [List.getElem?_append_left li]; exact epv)
        rw [epr] at hp
        refine ⟨_, rfl, _, _, rfl, rfl, _, rfl, ite2 (fun c1 => ?_) (fun _ => ?_)⟩
        · have := of_decide_eq_true c1
          omega
        · exact ⟨_, _, _, _, rfl, n1.trans iv.1, iv.2⟩
    · obtain ⟨y3, y4, y5, y6, rfl, nx, tx⟩ := hP
      exact q Hx nx tx
end

/-! ### shows_cost -/
structure PsM (Ms : GX.Mq) (Pn Pr Pb Pe Py Ps : Addr) : Prop where
  n : Pn ∈ Ms
  r : Pr ∈ Ms
  b : Pb ∈ Ms
  e : Pe ∈ Ms
  y : Py ∈ Ms
  s : Ps ∈ Ms
def spShows (K : PySem.W.Frag) (Ms : GX.Mq) (Xs : List Addr) (Pn Pr Pb Pe Py Ps : Addr) : Sp := fun vs H Q _ => ∃ (a b t L D : Addr) (ps : List Int) (rs : List (Int × Int)) (co : Int) (pl ds : List Int), vs = [.ref a, .ref b, .ref t] ∧ IntsQ H a ps ∧ LsQ H b rs ∧ (∀ x ∈ ps, 0 ≤ x) ∧ H t = some (.tup [.int co, .ref L, .ref D]) ∧ IntsQ H L pl ∧ IntsQ H D ds ∧ ToldOk ps rs co pl ds ∧ GX.TQ Ms Xs H ∧ PsM Ms Pn Pr Pb Pe Py Ps ∧
  ∀ H2, GX.NoTab H H2 → GX.TQ Ms Xs H2 → Q (.bl true) H2
theorem ToldOk.nn {ps : List Int} {rs : List (Int × Int)} {co : Int} {pl ds : List Int} (h : ToldOk ps rs co pl ds) (hps : ∀ x ∈ ps, 0 ≤ x) : 0 ≤ co := by
  rw [← h.cost]
  exact costF_nn fun p _ => prF_nn hps p
abbrev sShows : Stmt := topS 20
theorem scShows : FnScope ["prices", "runs", "told", "cost", "places", "dues", "place"] ["prices", "runs", "told"] (defScope sShows) := ⟨rfl, rfl, rfl, by decide +kernel, rfl, by decide +kernel, by decide +kernel⟩
section
variable {K : PySem.W.Frag} {mg : Str → Option Value} {P : Program} {w : World} {base : Heap} {Pn Pr Pb Pe Py Ps : Addr}
theorem ok_Shows {Ms : GX.Mq} {Xs : List Addr} {f c Ps : Addr} {oc kV doc pm ct : Value} {od an : Option Addr} {osl : Array (Option Value)} (lk : K.lookup f = some ⟨oc, od, .func (PySem.W.fnOf "shows_cost" "shows_cost" (defArgs sShows) (defBody sShows) (defScope sShows) .none kV doc pm an (.ref c) ct), osl⟩) (hcd : PySem.W.codeIn K (.ref c) "shows_cost" = true) (TG : GxR.TabB base mg c Ps) (C_is_tuple_of : Cal P w K mg base 1 "is_tuple_of" ["thing", "many"] spTupOf) (C_is_number : Cal P w K mg base 1 "is_number" ["thing"] spIsNum) (C_are_rising_below : Cal P w K mg base 7 "are_rising_below" ["thing", "many"] (spBelow K Ms Xs Pn Pr Pb)) (C_are_numbers : Cal P w K mg base 5 "are_numbers" ["thing"] (spNums K Ms Xs Pn)) (C_each_has_one : Cal P w K mg base 8 "each_has_one" ["runs", "numbers"] (spEach K Ms Xs Pe)) (C_are_payable : Cal P w K mg base 5 "are_payable" ["prices", "runs", "dues"] (spPay K Ms Xs Py)) (m_len : mg "len" = none) (m_sum : mg "sum" = none) : FnOk P w K mg base CX0 9 f (PySem.W.fnOf "shows_cost" "shows_cost" (defArgs sShows) (defBody sShows) (defScope sShows) .none kV doc pm an (.ref c) ct) ["prices", "runs", "told"] (spShows K Ms Xs Pn Pr Pb Pe Py Ps) := by
  refine fn_of lk hcd scShows (fun vs H Q E h => ?_) (fun A outer s H vs Q E hr h => ?_)
  · obtain ⟨a, b, t, L, D, ps, rs, co, pl, ds, rfl, _⟩ := h
    rfl
  · obtain ⟨a, b, t, L, D, ps, rs, co, pl, ds, rfl, hA, hB, hps, et, hL, hD, hok, hT, hM, q⟩ := h
    refine ⟨_, PSs.nox (pss_cons (ps_if (PW.pt (pw_or (pt_not (pt_val (pe_own C_is_tuple_of (hr.mono (show 1 ≤ 8 by decide)) (by rfl) (pa_cons (pv 2) (pa_cons pe_int pa_nil))))) (pw_or1 (pt_not (pt_val (pe_own C_is_number (hr.mono (show 1 ≤ 8 by decide)) (by rfl) (pa_cons (pe_ix ix_tup (pv 2) pe_int (fun _ _ => rfl)) pa_nil))))))) (pss_one (ps_ret pe_bl))
        pss_nil)
      (pss_cons (ps_asg (pv 2) (pg_tup rfl (pgs_cons (pg_name (i := 3) scShows.nd rfl (.inl rfl)) (pgs_cons (pg_name (i := 4) scShows.nd rfl (.inl rfl)) (pgs_cons (pg_name (i := 5) scShows.nd rfl (.inl rfl)) pgs_nil)))))
      (pss_cons (ps_if (PW.pt (pw_or (pt_not (pt_val (pe_own C_are_rising_below (hr.mono (show 7 ≤ 8 by decide)) (by rfl) (pa_cons (pv 4) (pa_cons (pe_callB call_len_seq (by rfl) m_len PySem.boot_len (pa_cons (pv 0) pa_nil)) pa_nil))))) (pw_or (pt_not (pt_val (pe_own C_are_numbers (hr.mono (show 5 ≤ 8 by decide)) (by rfl) (pa_cons (pv 5) pa_nil)))) (pw_or1 (pt_cmpR op_ne (pe_callB call_len_seq (by rfl) m_len PySem.boot_len (pa_cons (pv 5) pa_nil)) (pe_callB call_len_seq (by rfl) m_len PySem.boot_len (pa_cons (pv 1) pa_nil)) (nomark _)))))) (pss_one (ps_ret pe_bl))
        pss_nil)
      (pss_cons (ps_if (PW.pt (pw_or (pt_cmpR op_ne (GX.pe_sumX (k := 5) (own := [("place", 6)]) (te := fun code1 => (tOp (TK.rIxS K) (tVar 0) (tVar 6))) (g' := (gName 6)) (tt := tYes) hr scShows.nd (by rfl) m_sum TG.bm (pi_seq (pv 4)) (GX.pc_own (Ms := Ms) (Xs := Xs) TG rfl) (GX.gok_by (own := [("place", 6)]) (N := ["prices", "runs", "told", "cost", "places", "dues", "place"]) (sc := defScope sShows) (by decide +kernel)) (fun _ _ _ _ _ r1 gd1 => (pg_name (i := 6) scShows.nd rfl (.inl rfl))) (fun _ _ _ _ _ r1 gd1 => pts_nil) (fun _ _ _ code1 _ r1 gd1 => (pe_ix ix_seq (pv 0) (pv 6) (fun _ _ => rfl)))) (pv 3) (nomark _)) (pw_or1 (pt_not (pt_val (pe_own C_each_has_one hr (by rfl) (pa_cons (pv 1) (pa_cons (pv 4) pa_nil)))))))) (pss_one (ps_ret pe_bl))
        pss_nil)
      (pss_one (ps_ret (pe_and (pe_cmpR op_eq (pe_callB (cr_sumQ rfl) (by rfl) m_sum (by decide +kernel) (pa_cons (pv 5) pa_nil)) (pv 3) (nomark _)) (pe_one (pe_own C_are_payable (hr.mono (show 5 ≤ 8 by decide)) (by rfl) (pa_cons (pv 0) (pa_cons (pv 1) (pa_cons (pv 5) pa_nil)))))))))))), ?_⟩
    have co0 := hok.nn hps
    have lps : (ps.map V.int).length = ps.length := List.length_map ..
    have lds : (ds.map V.int).length = ds.length := List.length_map ..
    obtain ⟨us, eB, pr⟩ := id hB
    have lus : us.length = rs.length := pr.1
    refine ⟨_, rfl, t, _, rfl, et, _, rfl, ite2 (fun z => nomatch z) (fun _ => ?_)⟩
    refine ⟨_, rfl, t, _, 0, _, rfl, rfl, .inl (.inl et), atI_nat (j := 0) rfl, co, rfl, co0, _, rfl, ite2 (fun z => nomatch z) (fun _ => ?_)⟩
    refine ⟨_, rfl, t, _, rfl, .inl (.inl et), rfl, _, _, rfl, _, _, rfl, _, _, rfl, rfl, ?_⟩
    refine ⟨_, rfl, _, rfl, a, _, rfl, hA.lq, L, pl, _, rfl, hL, fun x hx => by rw [lps]; exact hok.rng x hx, hok.inc, hT, hM.n, hM.r, hM.b, fun H1 n1 t1 => ⟨_, rfl, ite2 (fun z => nomatch z) (fun _ => ?_)⟩⟩
    refine ⟨_, rfl, D, ds, rfl, hD.noTab n1, hok.dues.nn, t1, hM.n, fun H2 n2 t2 => ⟨_, rfl, ite2 (fun z => nomatch z) (fun _ => ?_)⟩⟩
    have n12 := n1.trans n2
    refine ⟨_, rfl, D, _, rfl, (hD.noTab n12).lq, _, rfl, b, _, rfl, (eB.noTab n12).lq, rfl, _, rfl, ite2 (fun z => ?_) (fun _ => ?_)⟩
    · rw [lds, lus, hok.dues.len, decide_eq_true rfl] at z
      cases z
    have lpl : (pl.map V.int).length = pl.length := List.length_map ..
    refine ⟨_, rfl, L, rfl, iseq_gx (hL.noTab n12) fun J G wk hG => ⟨t2, hM.s, fun H3 c' P' n3 t3 nX eC tG => GX.turns_sum wk (fun i => prF ps (pl.getD i 0)) (fun Hx => GX.NoTab H2 Hx ∧ GX.TQ Ms Xs Hx) ⟨n3, t3⟩ (fun Hx iv => hG Hx iv.1) (fun i x Hx Hx' Kt Kn hi iv hy kt _ => ?_) (fun H4 iv => ?_)⟩⟩
    · obtain ⟨rfl, hx⟩ := hy
      rw [List.getElem?_map] at hx
      obtain ⟨p, ep, rfl⟩ := Option.map_eq_some_iff.mp hx
      have hm := hok.rng p (List.mem_of_getElem? ep)
      have e : pl.getD i 0 = p := by rw [List.getD_eq_getElem?_getD, ep]; rfl
      rw [e] at kt
      exact ⟨rfl, _, rfl, _, rfl, a, _, p, _, rfl, rfl, (((hA.noTab n12).noTab iv.1).sq), prF_at hm.1 hm.2, kt _ iv⟩
    have es : preSum (fun i => prF ps (pl.getD i 0)) (pl.map V.int).length = co := by
      rw [lpl, preSum_list (f := prF ps) (l := pl) (fun i p e => by rw [List.getD_eq_getElem?_getD, e]; rfl) _ (Nat.le_refl _), List.take_length]
      exact hok.cost
    rw [es]
    have n4 := n12.trans iv.1
    refine ⟨_, rfl, rfl, _, rfl, ite2 (fun z => ?_) (fun _ => ?_)⟩
    · rw [decide_eq_true rfl] at z
      cases z
    refine ⟨_, rfl, _, rfl, b, L, rs, pl, rfl, hB.noTab n4, hL.noTab n4, hok.hit, iv.2, hM.e, fun H5 n5 t5 => ⟨_, rfl, ite2 (fun z => nomatch z) (fun _ => ?_)⟩⟩
    have n05 := n4.trans n5
    refine ⟨_, rfl, rSumQ.of (hD.noTab n05) ⟨_, rfl, rfl, _, rfl, ?_⟩⟩
    rw [hok.sum, decide_eq_true rfl]
    refine iteT ⟨_, rfl, _, rfl, _, rfl, a, b, D, ps, rs, ds, rfl, hA.noTab n05, hB.noTab n05, hD.noTab n05, hok.dues.len, hok.dues.paid, t5, hM.y, fun H6 n6 t6 => q H6 (n05.trans n6) t6⟩
end

/-! ### the law's own look at what is told -/
def spShown (K : PySem.W.Frag) : Sp := fun vs H Q _ => ∃ (a b t L D : Addr) (ps : List Int) (rs : List (Int × Int)) (co : Int) (pl ds : List Int), vs = [.ref a, .ref b, .ref t] ∧ IntsA H a ps ∧ LsA H b rs ∧ (∀ x ∈ ps, 0 ≤ x) ∧ 0 < ps.length ∧ ps.length ≤ 900 ∧ rs.length ≤ 900 ∧ RunIn ps.length rs ∧ H t = some (.tup [.int co, .ref L, .ref D]) ∧ IntsA H L pl ∧ IntsA H D ds ∧ ToldOk ps rs co pl ds ∧
  ∀ H', Same H H' → Q (.bl true) H'
theorem inc_len {n : Nat} {c : List Int} (h : c.Pairwise (· < ·)) (hr : ∀ x ∈ c, 0 ≤ x ∧ x < n) : c.length ≤ n := by
  have e : ((List.range n).map fun k : Nat => (k : Int)).length = n := by rw [List.length_map, List.length_range]
  rw [← e]
  refine nodup_len (List.Pairwise.imp (fun h => Int.ne_of_lt h) h) fun x hx => ?_
  have := hr x hx
  exact List.mem_map.mpr ⟨x.toNat, List.mem_range.mpr (by omega), by omega⟩
abbrev sShown : Stmt := topS 31
theorem scShown : FnScope ["_law_prices_here", "_law_runs_here", "_law_told", "_law_cost_here", "_law_places", "_law_dues", "_law_thing", "_law_first", "_law_last", "_law_place", "_law_left", "_law_due", "_law_one", "_law_other"] ["_law_prices_here", "_law_runs_here", "_law_told"] (defScope sShown) := ⟨rfl, rfl, rfl, by decide +kernel, rfl, by decide +kernel, by decide +kernel⟩
section
variable {K : PySem.W.Frag} {mg : Str → Option Value} {P : Program} {w : World} {base : Heap}
theorem ok_Shown {f : Addr} {fd : FuncData} (F : Fun K "_law_cost_shown" "_law_cost_shown" sShown f fd) (C__law_is_number : Cal P w K mg base 1 "_law_is_number" ["_law_thing"] spIsNum) (m_isinstance : mg "isinstance" = none) (m_tuple : mg "tuple" = none) (m_len : mg "len" = none) (m_list : mg "list" = none) (m_all : mg "all" = none) (m_zip : mg "zip" = none) (m_any : mg "any" = none) (m_sum : mg "sum" = none) (m_range : mg "range" = none) (m_min : mg "min" = none) : FnOk P w K mg base CX0 2 f fd ["_law_prices_here", "_law_runs_here", "_law_told"] (spShown K) := by
  refine F.ok scShown (fun vs H Q E h => ?_) (fun cdv A outer s H vs Q E hr h => ?_)
  · obtain ⟨a, b, t, L, D, ps, rs, co, pl, ds, rfl, _⟩ := h
    rfl
  · obtain ⟨a, b, t, L, D, ps, rs, co, pl, ds, rfl, hA, hB, hps, hp0, hpz, hrz, hr0, et, hL, hD, hok, q⟩ := h
    refine ⟨_, pss_cons (ps_if (PW.pt (pw_or (pt_not (pt_val (pe_callB call_isi (by rfl) m_isinstance (by decide +kernel) (pa_cons (pv 2) (pa_cons (pe_bltn (v := .ty "tuple") (by rfl) m_tuple (by decide +kernel) rfl) pa_nil))))) (pw_or (pt_cmpR op_ne (pe_callB call_len_seq (by rfl) m_len PySem.boot_len (pa_cons (pv 2) pa_nil)) pe_int (nomark _)) (pw_or1 (pt_not (pt_val (pe_own C__law_is_number hr (by rfl) (pa_cons (pe_ix ix_tup (pv 2) pe_int (fun _ _ => rfl)) pa_nil)))))))) (pss_one (ps_ret pe_bl))
        pss_nil)
      (pss_cons (ps_asg (pv 2) (pg_tup rfl (pgs_cons (pg_name (i := 3) scShown.nd rfl (.inl rfl)) (pgs_cons (pg_name (i := 4) scShown.nd rfl (.inl rfl)) (pgs_cons (pg_name (i := 5) scShown.nd rfl (.inl rfl)) pgs_nil)))))
      (pss_cons (ps_for PassesOwn.never rfl (pi_tup (pe_tup (pa_cons (pv 4) (pa_cons (pv 5) pa_nil)))) (pg_name (i := 6) scShown.nd rfl (.inl rfl))
        (pss_one (ps_if (PW.pt (pw_or (pt_not (pt_val (pe_callB call_isiT (by rfl) m_isinstance (by decide +kernel) (pa_cons (pv 6) (pa_cons (pe_tup (pa_cons (pe_bltn (v := .ty "list") (by rfl) m_list (by decide +kernel) rfl) (pa_cons (pe_bltn (v := .ty "tuple") (by rfl) m_tuple (by decide +kernel) rfl) pa_nil))) pa_nil))))) (pw_or1 (pt_not (pt_val (pe_callB (cr_all rfl) (by rfl) m_all (by decide +kernel) (pa_cons (pe_lc (own := [("_law_one", 12)]) (g := (gName 12)) (tt := tYes) (te := (tCall spIsNum [] E0 (tCons (tVar 12) tNil))) rfl scShown.nd (pi_seq (pv 6)) (blkOk_by (own := [("_law_one", 12)]) (N := ["_law_prices_here", "_law_runs_here", "_law_told", "_law_cost_here", "_law_places", "_law_dues", "_law_thing", "_law_first", "_law_last", "_law_place", "_law_left", "_law_due", "_law_one", "_law_other"]) (sc := defScope sShown) (by decide +kernel)) (fun _ _ _ _ _ => (pg_name (i := 12) scShown.nd rfl (.inl rfl))) (fun _ _ _ _ _ => pts_nil) (fun _ _ _ _ _ => (pe_own C__law_is_number hr (by rfl) (pa_cons (pv 12) pa_nil)))) pa_nil))))))) (pss_one (ps_ret pe_bl))
          pss_nil)))
      (pss_cons (ps_if (PW.pt (pw_or (pt_not (pt_val (pe_callB (cr_all rfl) (by rfl) m_all (by decide +kernel) (pa_cons (pe_lc (own := [("_law_one", 12), ("_law_other", 13)]) (g := (gTup K 2 (gCons (gName 12) (gCons (gName 13) gNil)))) (tt := tYes) (te := (tOp (rI0 fun i j => .bl (decide (i < j))) (tVar 12) (tVar 13))) rfl scShown.nd (RZ.pi_zipA (by rfl) m_zip (pa_cons (pv 4) (pa_cons (pe_slice sl_list (pv 4) (po_some pe_int) po_none) pa_nil))) (blkOk_by (own := [("_law_one", 12), ("_law_other", 13)]) (N := ["_law_prices_here", "_law_runs_here", "_law_told", "_law_cost_here", "_law_places", "_law_dues", "_law_thing", "_law_first", "_law_last", "_law_place", "_law_left", "_law_due", "_law_one", "_law_other"]) (sc := defScope sShown) (by decide +kernel)) (fun _ _ _ _ _ => (pg_tup rfl (pgs_cons (pg_name (i := 12) scShown.nd rfl (.inl rfl)) (pgs_cons (pg_name (i := 13) scShown.nd rfl (.inl rfl)) pgs_nil)))) (fun _ _ _ _ _ => pts_nil) (fun _ _ _ _ _ => (pe_cmpR op_lt (pv 12) (pv 13) (nomark _)))) pa_nil)))) (pw_or1 (pt_val (pe_callB (cr_any rfl) (by rfl) m_any (by decide +kernel) (pa_cons (pe_lc (own := [("_law_one", 12)]) (g := (gName 12)) (tt := tYes) (te := (tOp (rI0 fun i j => .bl (decide (j ≤ i))) (tVar 12) (tCB (fun xs H Q => ∃ p ys, xs = [.ref p] ∧ (SqL K H p ys ∨ SqT K H p ys) ∧ Q (.int ys.length) H) (tCons (tVar 0) tNil)))) rfl scShown.nd (pi_list (pv 4)) (blkOk_by (own := [("_law_one", 12)]) (N := ["_law_prices_here", "_law_runs_here", "_law_told", "_law_cost_here", "_law_places", "_law_dues", "_law_thing", "_law_first", "_law_last", "_law_place", "_law_left", "_law_due", "_law_one", "_law_other"]) (sc := defScope sShown) (by decide +kernel)) (fun _ _ _ _ _ => (pg_name (i := 12) scShown.nd rfl (.inl rfl))) (fun _ _ _ _ _ => pts_nil) (fun _ _ _ _ _ => (pe_cmpR op_ge (pv 12) (pe_callB call_len_seq (by rfl) m_len PySem.boot_len (pa_cons (pv 0) pa_nil)) (nomark _)))) pa_nil)))))) (pss_one (ps_ret pe_bl))
        pss_nil)
      (pss_cons (ps_for PassesOwn.never rfl (pi_list (pv 1)) (pg_tup rfl (pgs_cons (pg_name (i := 7) scShown.nd rfl (.inr rfl)) (pgs_cons (pg_name (i := 8) scShown.nd rfl (.inr rfl)) pgs_nil)))
        (pss_one (ps_if (pt_not (pt_val (pe_callB (cr_any rfl) (by rfl) m_any (by decide +kernel) (pa_cons (pe_lc (own := [("_law_place", 9)]) (g := (gName 9)) (tt := tYes) (te := (tChain (rI0 fun i j => .bl (decide (i ≤ j))) (rI0 fun i j => .bl (decide (i ≤ j))) (tVar 7) (tVar 9) (tVar 8))) rfl scShown.nd (pi_list (pv 4)) (blkOk_by (own := [("_law_place", 9)]) (N := ["_law_prices_here", "_law_runs_here", "_law_told", "_law_cost_here", "_law_places", "_law_dues", "_law_thing", "_law_first", "_law_last", "_law_place", "_law_left", "_law_due", "_law_one", "_law_other"]) (sc := defScope sShown) (by decide +kernel)) (fun _ _ _ _ _ => (pg_name (i := 9) scShown.nd rfl (.inl rfl))) (fun _ _ _ _ _ => pts_nil) (fun _ _ _ _ _ => (pe_chain op_le op_le (pv 7) (pv 9) (pv 8)))) pa_nil)))) (pss_one (ps_ret pe_bl))
          pss_nil)))
      (pss_cons (ps_if (PW.pt (pw_or (pt_cmpR op_ne (pe_callB (cr_sum rfl) (by rfl) m_sum (by decide +kernel) (pa_cons (pe_lc (own := [("_law_place", 9)]) (g := (gName 9)) (tt := tYes) (te := (tOp (rIxL K) (tVar 0) (tVar 9))) rfl scShown.nd (pi_list (pv 4)) (blkOk_by (own := [("_law_place", 9)]) (N := ["_law_prices_here", "_law_runs_here", "_law_told", "_law_cost_here", "_law_places", "_law_dues", "_law_thing", "_law_first", "_law_last", "_law_place", "_law_left", "_law_due", "_law_one", "_law_other"]) (sc := defScope sShown) (by decide +kernel)) (fun _ _ _ _ _ => (pg_name (i := 9) scShown.nd rfl (.inl rfl))) (fun _ _ _ _ _ => pts_nil) (fun _ _ _ _ _ => (pe_ix ix_list (pv 0) (pv 9) (fun _ _ => rfl)))) pa_nil)) (pv 3) (nomark _)) (pw_or (pt_cmpR op_ne (pe_callB call_len_seq (by rfl) m_len PySem.boot_len (pa_cons (pv 5) pa_nil)) (pe_callB call_len_seq (by rfl) m_len PySem.boot_len (pa_cons (pv 1) pa_nil)) (nomark _)) (pw_or1 (pt_cmpR op_ne (pe_callB (cr_sum rfl) (by rfl) m_sum (by decide +kernel) (pa_cons (pv 5) pa_nil)) (pv 3) (nomark _)))))) (pss_one (ps_ret pe_bl))
        pss_nil)
      (pss_cons (ps_set (i := 10) scShown.nd rfl (.inl rfl) (pe_callTy call_list_of (by rfl) m_list (by decide +kernel) (pa_cons (pv 0) pa_nil)))
      (pss_cons (ps_for PassesOwn.never rfl (RZ.pi_zipA (by rfl) m_zip (pa_cons (pv 5) (pa_cons (pv 1) pa_nil))) (pg_tup rfl (pgs_cons (pg_name (i := 11) scShown.nd rfl (.inl rfl)) (pgs_cons (pg_tup rfl (pgs_cons (pg_name (i := 7) scShown.nd rfl (.inr rfl)) (pgs_cons (pg_name (i := 8) scShown.nd rfl (.inr rfl)) pgs_nil))) pgs_nil)))
        (pss_one (ps_for PassesOwn.never rfl (pi_range2 rfl m_range (pa_cons (pv 7) (pa_cons (pe_op op_add (pv 8) pe_int) pa_nil))) (pg_name (i := 9) scShown.nd rfl (.inl rfl))
          (pss_one (ps_asg (pe_op op_sub (pe_ix ix_list (pv 10) (pv 9) (fun _ _ => rfl)) (pv 11)) (pg_sub (pv 10) (pv 9) set_list))))))
      (pss_one (ps_ret (pe_cmpR op_ge (pe_callB (cr_min rfl) (by rfl) m_min (by decide +kernel) (pa_cons (pv 10) pa_nil)) pe_int (nomark _))))))))))), ?_⟩
    have co0 := hok.nn hps
    obtain ⟨us, eB, pr⟩ := id hB
    have lus : us.length = rs.length := pr.1
    have lps : (ps.map V.int).length = ps.length := List.length_map ..
    have lds : (ds.map V.int).length = ds.length := List.length_map ..
    have lpl : (pl.map V.int).length = pl.length := List.length_map ..
    have pl900 : pl.length ≤ ps.length := inc_len hok.inc hok.rng
    have hL' : H L = some (.lst (pl.map V.int)) := hL
    have hD' : H D = some (.lst (ds.map V.int)) := hD
    have hA' : H a = some (.lst (ps.map V.int)) := hA
    have ld := hok.dues.len
    refine ⟨_, rfl, _, _, .type "tuple", .type "tuple", true, rfl, .ty _, .base (.tup et), kit_ty (by decide +kernel), _, rfl, ite2 (fun z => nomatch z) (fun _ => ?_)⟩
    refine ⟨_, rfl, t, _, rfl, .inr (.inl (.inl et)), rfl, _, rfl, ite2 (fun z => nomatch z) (fun _ => ?_)⟩
    refine ⟨_, rfl, t, _, 0, _, rfl, rfl, .inl (.inl et), atI_nat (j := 0) rfl, co, rfl, co0, _, rfl, ite2 (fun z => nomatch z) (fun _ => ?_)⟩
    refine ⟨_, rfl, t, _, rfl, .inl (.inl et), rfl, _, _, rfl, _, _, rfl, _, _, rfl, rfl, ?_⟩
    refine ⟨_, rfl, _, rfl, (by show 2 ≤ sizeLine; decide), fun T0 nT0 => ⟨T0, rfl, ⟨_, .inl (.inl upd_same)⟩, for_tup (xs := [.ref L, .ref D]) (fun i σ Hx => ∃ y6 y7 y8 y9 y10 y11 y12 y13 : Option V, σ = [some (.ref a), some (.ref b), some (.ref t), some (.int co), some (.ref L), some (.ref D), y6, y7, y8, y9, y10, y11, y12, y13] ∧ Same (upd H T0 (.tup [.ref L, .ref D])) Hx) ⟨_, _, _, _, _, _, _, _, rfl, Same.refl _⟩ (fun i σ Hx _ hP => ?_) (fun i x σ Hx hx hP => ?_) (fun σ Hx hP => ?_)⟩⟩
    · obtain ⟨y6, y7, y8, y9, y10, y11, y12, y13, rfl, sx⟩ := hP
      exact .inl (.inl (sx _ _ upd_same))
    · obtain ⟨y6, y7, y8, y9, y10, y11, y12, y13, rfl, sx⟩ := hP
      have sH : Same H Hx := (same_upd nT0).trans sx
      have hx2 : ∃ (X : Addr) (ns : List Int), x = .ref X ∧ Hx X = some (.lst (ns.map V.int)) ∧ (∀ n ∈ ns, 0 ≤ n) ∧ ns.length ≤ 900 := by
        have hm := List.mem_of_getElem? hx
        simp only [List.mem_cons, List.not_mem_nil, or_false] at hm
        rcases hm with rfl | rfl
        · exact ⟨L, pl, rfl, sH _ _ hL', fun n hn => (hok.rng n hn).1, by omega⟩
        · exact ⟨D, ds, rfl, sH _ _ hD', hok.dues.nn, by omega⟩
      obtain ⟨X, ns, rfl, eX, hn, hnz⟩ := hx2
      refine ⟨_, rfl, (by show 2 ≤ sizeLine; decide), fun p np => ?_⟩
      have sp : Same Hx (upd Hx p (.tup [.ty "list", .ty "tuple"])) := same_upd np
      refine ⟨.ref X, p, _, .type "list", [.type "list", .type "tuple"], true, rfl, upd_same, .cons (.ty _) (.cons (.ty _) .nil), .base (.lst (sp _ _ eX)), kit2L, _, rfl, ite2 (fun z => nomatch z) (fun _ => ?_)⟩
      have eXp := sp _ _ eX
      refine ⟨_, rfl, X, rfl, .inl ⟨⟨_, SqL.of eXp⟩, fun G nG => lc_bs (bs := ns.map fun _ => true) nG eXp (by rw [List.length_map, List.length_map]) (by rw [List.length_map]; omega) (fun j x bb H4 Kt Kn hx2 hb2 s4 k => ?_) (fun H4 s4 eG => ?_)⟩⟩
      · rw [List.getElem?_map] at hx2 hb2
        cases hp : ns[j]? with
        | none => rw [hp] at hx2; cases hx2
        | some n =>
          rw [hp] at hx2 hb2
          cases hx2
          cases hb2
          exact ⟨rfl, _, rfl, n, rfl, hn n (List.mem_of_getElem? hp), k _ (Same.refl _)⟩
      · refine ⟨G, _, rfl, SqL.of eG, _, rfl, ?_⟩
        have eall : (ns.map fun _ => true).all id = true := by
          rw [List.all_map, List.all_eq_true]
          exact fun _ _ => rfl
        rw [eall]
        exact ite2 (fun z => nomatch z) (fun _ => ⟨_, _, _, _, _, _, _, _, rfl, sx.trans (sp.trans s4)⟩)
    obtain ⟨y6, y7, y8, y9, y10, y11, y12, y13, rfl, sx⟩ := hP
    have s1 : Same H Hx := (same_upd nT0).trans sx
    have eL1 := s1 _ _ hL'
    -- rising
    refine ⟨_, rfl, _, rfl, _, rfl, L, _, rfl, SqL.of eL1, fun p2 np2 => ?_⟩
    rw [cutV_tail]
    have s2 := same_upd (o := .lst ((pl.map V.int).drop 1)) np2
    have ep2 : upd Hx p2 (.lst ((pl.map V.int).drop 1)) p2 = some (.lst ((pl.map V.int).drop 1)) := upd_same
    generalize upd Hx p2 (.lst ((pl.map V.int).drop 1)) = H2 at s2 ep2
    have ldr : ((pl.map V.int).drop 1).length = pl.length - 1 := by rw [List.length_drop, lpl]
    have eL2 := s2 _ _ eL1
    refine ⟨L, p2, _, _, rfl, .inl ⟨SqL.of eL2, SqL.of ep2, fun G nG => lc_it (walk_zip (xs := pl.map V.int) (ys := (pl.map V.int).drop 1) (n := pl.length - 1) (by rw [ldr, lpl]; omega)) (fun j H' => Same H2 H' ∧ H' G = some (.lst ((List.replicate j true).map V.bl))) ⟨same_upd nG, upd_same⟩ (fun j H' _ p => ⟨SqL.of (p.1 _ _ eL2), SqL.of (p.1 _ _ ep2)⟩) (fun j x H' H'' hj hP hy => ?_) (fun H3 hP => ?_)⟩⟩
    · obtain ⟨sm, eG⟩ := hP
      obtain ⟨T, u, v, rfl, nT, rfl, e1, e2⟩ := hy
      have l1 : j < pl.length := by omega
      have l2 : j + 1 < pl.length := by omega
      have e1 : (pl.map V.int)[j]? = some u := e1
      have e2 : ((pl.map V.int).drop 1)[j]? = some v := e2
      rw [List.getElem?_map, List.getElem?_eq_getElem l1] at e1
      rw [List.getElem?_drop, List.getElem?_map, show 1 + j = j + 1 by omega, List.getElem?_eq_getElem l2] at e2
      cases e1
      cases e2
      have lt : pl[j] < pl[j + 1] := List.pairwise_iff_getElem.mp hok.inc j (j + 1) l1 l2 (by omega)
      have sT := same_upd (o := .tup [.int pl[j], .int pl[j + 1]]) nT
      refine ⟨T, _, rfl, .inl (.inl upd_same), rfl, _, _, rfl, _, _, rfl, rfl, rfl, _, rfl, _, rfl, _, _, rfl, rfl, _, sT _ _ eG, small1000 (by rw [List.length_map, List.length_replicate]; omega), fun b' o e => ?_, ?_⟩
      · rw [upd_ne (ne_of_none e nG)]
        exact sT _ _ (sm b' o e)
      · rw [upd_same, List.replicate_succ', List.map_append]
        show some (HO.lst (_ ++ [V.bl (decide (pl[j] < pl[j + 1]))])) = _
        rw [decide_eq_true lt]
        rfl
    obtain ⟨s3, eG⟩ := hP
    refine ⟨G, _, rfl, SqL.of eG, _, rfl, ?_⟩
    have eall : (List.replicate (pl.length - 1) true).all id = true := List.all_eq_true.mpr fun b hb => (List.mem_replicate.mp hb).2
    rw [eall]
    refine ite2 (fun z => nomatch z) (fun _ => ?_)
    have s4 := (s1.trans s2).trans s3
    have eL4 := s4 _ _ hL'
    have eA4 := s4 _ _ hA'
    -- places that are there
    refine ⟨_, rfl, L, rfl, ⟨_, SqL.of eL4⟩, fun G2 nG2 => lc_bs (bs := pl.map fun _ => false) nG2 eL4 (by rw [List.length_map, List.length_map]) (by rw [List.length_map]; omega) (fun j x bb H4 Kt Kn hx2 hb2 s5 k => ?_) (fun H5 s5 eG2 => ?_)⟩
    · rw [List.getElem?_map] at hx2 hb2
      cases hp : pl[j]? with
      | none => rw [hp] at hx2; cases hx2
      | some n =>
        rw [hp] at hx2 hb2
        cases hx2
        cases hb2
        have hrng := hok.rng n (List.mem_of_getElem? hp)
        refine ⟨rfl, _, rfl, _, rfl, a, _, rfl, .inl (SqL.of (s5 _ _ eA4)), _, _, rfl, rfl, ?_⟩
        have := k _ (Same.refl _)
        rw [← decide_eq_false (show ¬ ((ps.map V.int).length : Int) ≤ n by rw [lps]; omega)] at this
        exact this
    refine ⟨G2, _, rfl, SqL.of eG2, _, rfl, ?_⟩
    have eany : (pl.map fun _ => false).any id = false := by
      rw [List.any_map, List.any_eq_false]
      exact fun _ _ => Bool.false_ne_true
    rw [eany]
    refine iteF ?_
    have s6 := s4.trans s5
    have eB6 := s6 _ _ eB
    -- each run has one
    refine ⟨_, rfl, b, rfl, ⟨_, SqL.of eB6⟩, for_list (xs := us) (fun i σ Hx => ∃ y6 y7 y8 y9 y10 y11 y12 y13 : Option V, σ = [some (.ref a), some (.ref b), some (.ref t), some (.int co), some (.ref L), some (.ref D), y6, y7, y8, y9, y10, y11, y12, y13] ∧ Same H5 Hx) ⟨_, _, _, _, _, _, _, _, rfl, Same.refl _⟩ (fun i σ Hy _ hP => ?_) (fun i x σ Hy hx hP => ?_) (fun σ Hy hP => ?_)⟩
    · obtain ⟨z6, z7, z8, z9, z10, z11, z12, z13, rfl, sy⟩ := hP
      exact SqL.of (sy _ _ eB6)
    · obtain ⟨z6, z7, z8, z9, z10, z11, z12, z13, rfl, sy⟩ := hP
      obtain ⟨r, T, er, rfl, eT⟩ := prs_at pr hx
      have sHy := s6.trans sy
      have eLy := sHy _ _ hL'
      refine ⟨T, _, rfl, .inl (.inl (sHy _ _ eT)), rfl, _, _, rfl, _, _, rfl, rfl, ?_⟩
      refine ⟨_, rfl, L, rfl, ⟨_, SqL.of eLy⟩, fun G3 nG3 => lc_bs (bs := pl.map fun p => decide (r.1 ≤ p) && decide (p ≤ r.2)) nG3 eLy (by rw [List.length_map, List.length_map]) (by rw [List.length_map]; omega) (fun j x bb H6 Kt Kn hx2 hb2 s7 k => ?_) (fun H6 s7 eG3 => ?_)⟩
      · rw [List.getElem?_map] at hx2 hb2
        cases hp : pl[j]? with
        | none => rw [hp] at hx2; cases hx2
        | some n =>
          rw [hp] at hx2 hb2
          cases hx2
          cases hb2
          refine ⟨rfl, _, rfl, _, rfl, _, _, rfl, rfl, _, rfl, ite2 (fun c1 => ⟨_, rfl, _, _, rfl, rfl, ?_⟩) (fun c1 => ?_)⟩
          · have this : Kt (V.bl (decide (r.1 ≤ n) && decide (n ≤ r.2))) H6 := k _ (Same.refl _)
            rw [c1] at this
            exact this
          · have this : Kt (V.bl (decide (r.1 ≤ n) && decide (n ≤ r.2))) H6 := k _ (Same.refl _)
            rw [Bool.eq_false_iff.mpr c1] at this
            exact this
      · refine ⟨G3, _, rfl, SqL.of eG3, _, rfl, ?_⟩
        have ea : (pl.map fun p => decide (r.1 ≤ p) && decide (p ≤ r.2)).any id = true := by
          rw [List.any_map, List.any_eq_true]
          obtain ⟨p, hp, h1, h2⟩ := hok.hit r (List.mem_of_getElem? er)
          exact ⟨p, hp, by show (decide (r.1 ≤ p) && decide (p ≤ r.2)) = true; rw [decide_eq_true h1, decide_eq_true h2]; rfl⟩
        rw [ea]
        exact ite2 (fun z => nomatch z) (fun _ => ⟨_, _, _, _, _, _, _, _, rfl, sy.trans s7⟩)
    obtain ⟨z6, z7, z8, z9, z10, z11, z12, z13, rfl, sy⟩ := hP
    have s7 := s6.trans sy
    have eL7 := s7 _ _ hL'
    have eA7 := s7 _ _ hA'
    -- what they cost
    refine ⟨_, rfl, L, rfl, ⟨_, SqL.of eL7⟩, fun G4 nG4 => lc_list (xs := pl.map V.int) (fun j H' => Same Hy H' ∧ H' G4 = some (.lst (((pl.take j).map (prF ps)).map V.int))) ⟨same_upd nG4, upd_same⟩ (fun j H' _ hP => SqL.of (hP.1 _ _ eL7)) (fun j x H' hx hP => ?_) (fun H8 hP => ?_)⟩
    · obtain ⟨sm, eG⟩ := hP
      rw [List.getElem?_map] at hx
      obtain ⟨n, en, rfl⟩ := Option.map_eq_some_iff.mp hx
      have hrng := hok.rng n (List.mem_of_getElem? en)
      refine ⟨rfl, _, rfl, _, rfl, a, _, n, _, rfl, rfl, SqL.of (sm _ _ eA7), prF_at hrng.1 hrng.2, _, eG, small1000 (by rw [List.length_map, List.length_map, List.length_take]; omega), fun b' o e => ?_, ?_⟩
      · rw [upd_ne (ne_of_none e nG4)]
        exact sm b' o e
      · rw [upd_same, List.take_add_one, en, List.map_append, List.map_append]
        rfl
    obtain ⟨s8, eG4⟩ := hP
    rw [lpl, List.take_length] at eG4
    have ecost : (pl.map (prF ps)).sum = co := hok.cost
    refine ⟨G4, _, rfl, SqL.of eG4, _, rfl, rfl, _, rfl, ?_⟩
    rw [ecost, decide_eq_true rfl]
    refine ite2 (fun z => nomatch z) (fun _ => ?_)
    have s9 := s7.trans s8
    have eD9 := s9 _ _ hD'
    have eB9 := s9 _ _ eB
    have eA9 := s9 _ _ hA'
    refine ⟨_, rfl, D, _, rfl, .inl (SqL.of eD9), _, rfl, b, _, rfl, .inl (SqL.of eB9), rfl, _, rfl, ?_⟩
    rw [lds, lus, ld, decide_eq_true rfl]
    refine ite2 (fun z => nomatch z) (fun _ => ?_)
    refine ⟨_, rfl, D, _, rfl, SqL.of eD9, _, rfl, rfl, _, rfl, ?_⟩
    rw [hok.sum, decide_eq_true rfl]
    refine ite2 (fun z => nomatch z) (fun _ => ?_)
    -- what the dues leave
    refine ⟨_, rfl, a, _, rfl, .inl (SqL.of eA9), fun W nW => ?_⟩
    have sW := same_upd (o := .lst (ps.map V.int)) nW
    have eW : upd H8 W (.lst (ps.map V.int)) W = some (.lst (ps.map V.int)) := upd_same
    have nWH : H W = none := (NoTab.same s9).free nW
    have s10 := s9.trans sW
    generalize upd H8 W (.lst (ps.map V.int)) = H9 at eW s10
    have nWD : W ≠ D := fun z => by rw [z, hD'] at nWH; cases nWH
    have nWb : W ≠ b := fun z => by rw [z, eB] at nWH; cases nWH
    have lzz : (rs.zip ds).length = ds.length := by rw [List.length_zip, ld, Nat.min_self]
    refine ⟨_, rfl, _, rfl, D, b, ds.map V.int, us, rfl, .inl ⟨SqL.of (s10 _ _ hD'), SqL.of (s10 _ _ eB), for_it (walk_zip (xs := ds.map V.int) (ys := us) (n := ds.length) (by rw [lds, lus, ld, Nat.min_self])) (fun i σ Hx => ∃ (ls : List Int) (w6 w7 w8 w9 w11 w12 w13 : Option V), σ = [some (.ref a), some (.ref b), some (.ref t), some (.int co), some (.ref L), some (.ref D), w6, w7, w8, w9, some (.ref W), w11, w12, w13] ∧ IntsA Hx W ls ∧ ls.length = ps.length ∧ (∀ p : Int, 0 ≤ p → p < ps.length → cF ls p = prF ps p - paidF ((rs.zip ds).take i) p) ∧ ∀ b' o, b' ≠ W → H9 b' = some o → Hx b' = some o)
      ⟨ps, _, _, _, _, _, _, _, rfl, eW, rfl, fun p p0 p1 => (cF_all p0 p1).symm.trans (Int.sub_zero _).symm, fun _ _ _ e => e⟩ (fun i σ Hx _ hP => ?_) (fun i v σ Hx Hx' hi hP hy => ?_) (fun σ Hx hP => ?_)⟩⟩
    · obtain ⟨ls, w6, w7, w8, w9, w11, w12, w13, rfl, eWx, lls, hcf, kx⟩ := hP
      exact ⟨SqL.of (kx _ _ (Ne.symm nWD) (s10 _ _ hD')), SqL.of (kx _ _ (Ne.symm nWb) (s10 _ _ eB))⟩
    · obtain ⟨ls, w6, w7, w8, w9, w11, w12, w13, rfl, eWx, lls, hcf, kx⟩ := hP
      obtain ⟨T, u, v2, rfl, nT, rfl, e1, e2⟩ := hy
      have e1 : (ds.map V.int)[i]? = some u := e1
      have e2 : us[i]? = some v2 := e2
      rw [List.getElem?_map] at e1
      obtain ⟨dv, edv, rfl⟩ := Option.map_eq_some_iff.mp e1
      obtain ⟨r, T3, er, rfl, eT3⟩ := prs_at pr e2
      obtain ⟨r0, r1, r2⟩ := hr0 r (List.mem_of_getElem? er)
      have sT := same_upd (o := .tup [.int dv, .ref T3]) nT
      have nT3 : T3 ≠ W := fun z => by rw [← z, eT3] at nWH; cases nWH
      have eT3' := sT _ _ (kx _ _ nT3 (s10 _ _ eT3))
      have eW2 : IntsA (upd Hx T (.tup [.int dv, .ref T3])) W ls := sT _ _ eWx
      refine ⟨T, _, rfl, .inl (.inl upd_same), rfl, _, _, rfl, _, _, rfl, ⟨T3, _, rfl, .inl (.inl eT3'), rfl, _, _, rfl, _, _, rfl, rfl, rfl, ?_⟩⟩
      have kx2 : ∀ b' o, b' ≠ W → H9 b' = some o → upd Hx T (.tup [.int dv, .ref T3]) b' = some o := fun b' o n e => sT _ _ (kx b' o n e)
      generalize upd Hx T (.tup [.int dv, .ref T3]) = H10 at eW2 kx2
      obtain ⟨f, hf⟩ := Int.eq_ofNat_of_zero_le r0
      refine ⟨_, rfl, _, rfl, _, 1, rfl, rfl, r.1, r.2 + 1, rfl, ⟨by omega, by omega, by omega, by omega⟩, for_range (lo := r.1) (n := (r.2 + 1 - r.1).toNat) (fun j σ Hy => ∃ (ls2 : List Int) (w9 : Option V), σ = [some (.ref a), some (.ref b), some (.ref t), some (.int co), some (.ref L), some (.ref D), w6, some (.int r.1), some (.int r.2), w9, some (.ref W), some (.int dv), w12, w13] ∧ IntsA Hy W ls2 ∧ ls2.length = ps.length ∧ (∀ p : Int, 0 ≤ p → p < ps.length → cF ls2 p = cF ls p - if r.1 ≤ p ∧ p < r.1 + (j : Int) then dv else 0) ∧ ∀ b' o, b' ≠ W → H9 b' = some o → Hy b' = some o)
        ⟨ls, _, rfl, eW2, lls, fun p _ _ => by rw [if_neg (by omega)]; omega, kx2⟩ (fun j σ Hy hj hP => ?_) (fun σ Hy hP => ?_)⟩
      · obtain ⟨ls2, w9, rfl, eW3, ll2, hc2, kx3⟩ := hP
        have lp : f + j < ls2.length := by omega
        obtain ⟨v, ev⟩ : ∃ v, ls2[f + j]? = some v := ⟨_, List.getElem?_eq_getElem lp⟩
        have ei : r.1 + (j : Int) = ((f + j : Nat) : Int) := by omega
        refine ⟨_, rfl, _, rfl, W, _, _, .int v, rfl, rfl, SqL.of eW3, by rw [ei]; exact IntsA.at ev, _, rfl, _, _, rfl, rfl, _, rfl, _, rfl, W, _, _, f + j, rfl, rfl, eW3, by rw [ei, List.length_map]; exact ixN_of lp, ?_⟩
        refine ⟨ls2.set (f + j) (v - dv), _, rfl, ?_, by rw [List.length_set]; exact ll2, fun p p0 p1 => ?_, fun b' o n1 e => ?_⟩
        · show upd _ _ _ _ = _
          rw [upd_same, List.map_set]
        · rw [cF_set lp p0]
          have h2 := hc2 p p0 p1
          by_cases c : p = ((f + j : Nat) : Int)
          · rw [if_pos c, if_pos (by omega)]
            rw [if_neg (by omega), c, cF_at ev] at h2
            rw [c]
            omega
          · rw [if_neg c, h2]
            by_cases c2 : r.1 ≤ p ∧ p < r.1 + (j : Int)
            · rw [if_pos c2, if_pos (by omega)]
            · rw [if_neg c2, if_neg (by omega)]
        · rw [upd_ne n1]
          exact kx3 b' o n1 e
      · obtain ⟨ls2, w9, rfl, eW3, ll2, hc2, kx3⟩ := hP
        refine ⟨ls2, _, _, _, _, _, _, _, rfl, eW3, ll2, fun p p0 p1 => ?_, kx3⟩
        have ez : (rs.zip ds)[i]? = some (r, dv) := List.getElem?_zip_eq_some.mpr ⟨er, edv⟩
        have et2 : (rs.zip ds).take (i + 1) = (rs.zip ds).take i ++ [(r, dv)] := by rw [List.take_add_one, ez]; rfl
        rw [et2, paid_snoc, hc2 p p0 p1, hcf p p0 p1]
        by_cases c : inR r p
        · rw [if_pos c, if_pos (by have := c.1; have := c.2; omega)]; omega
        · rw [if_neg c, if_neg (fun z => c ⟨z.1, by omega⟩)]; omega
    · obtain ⟨ls, w6, w7, w8, w9, w11, w12, w13, rfl, eWx, lls, hcf, kx⟩ := hP
      refine ⟨_, rfl, W, ls, rfl, SqL.of eWx, by omega, fun m hm _ => ⟨_, _, rfl, rfl, ?_⟩⟩
      have hm0 : 0 ≤ m := by
        obtain ⟨i, hi, rfl⟩ := List.getElem_of_mem hm
        have h1 := hcf (i : Int) (by omega) (by omega)
        rw [cF_at (List.getElem?_eq_getElem hi)] at h1
        have h2 := hok.dues.paid (i : Int) (by omega) (by omega)
        rw [← lzz, List.take_length] at h1
        omega
      show Q (.bl (decide (0 ≤ m))) Hx
      rw [decide_eq_true hm0]
      exact q Hx fun b' o e => kx b' o (ne_of_none e nWH) (s10 b' o e)
end

/-! ### the cost, looked at -/
structure CoM (Ms : GX.Mq) (Pc Pt Pn Pr Pb Pe Py Ps : Addr) : Prop where
  c : Pc ∈ Ms
  t : LamT Ms Pt
  m : PsM Ms Pn Pr Pb Pe Py Ps
def spLCost (K : PySem.W.Frag) (Ms : GX.Mq) (Xs : List Addr) (Pc Pt Pn Pr Pb Pe Py Ps : Addr) : Sp := fun vs H Q _ => ∃ (a b : Addr) (ps : List Int) (rs : List (Int × Int)), vs = [.ref a, .ref b] ∧ IntsA H a ps ∧ LsA H b rs ∧ (∀ x ∈ ps, 0 ≤ x) ∧ 0 < ps.length ∧ ps.length ≤ 900 ∧ rs.length ≤ 900 ∧ RunIn ps.length rs ∧ GX.TQ Ms Xs H ∧ CoM Ms Pc Pt Pn Pr Pb Pe Py Ps ∧
  ∀ H2 co, GX.NoTab H H2 → GX.TQ Ms Xs H2 → LeastC ps rs co → Q (.int co) H2
abbrev sLCost : Stmt := topS 32
theorem scLCost : FnScope ["_law_prices_here", "_law_runs_here", "_law_told"] ["_law_prices_here", "_law_runs_here"] (defScope sLCost) := ⟨rfl, rfl, rfl, by decide +kernel, rfl, by decide +kernel, by decide +kernel⟩
theorem LsA.noTab {H H' : Hp} {a : Addr} {rs : List (Int × Int)} (h : LsA H a rs) (s : GX.NoTab H H') : LsA H' a rs := by
  obtain ⟨us, e, p⟩ := h
  exact ⟨us, s.lst e, p.1, fun i r er => let ⟨x, h1, h2⟩ := p.2 i r er; ⟨x, h1, s.tup h2⟩⟩
def spOrdered : Sp := fun vs H Q _ => ∃ (d c m : Addr) (t : Int) (rs : List (Int × Int)), vs = [.ref d, .ref m] ∧ StAt H d c t ∧ t < 2 ^ 58 ∧ LsA H m rs ∧ m ≠ d ∧ m ≠ c ∧ rs.length ≤ 60 ∧
  ∀ p H' rs' t', H p = none → (∀ o, o ∈ rs ↔ o ∈ rs') → rs'.length = rs.length → LsA H' p rs' → t ≤ t' → t' ≤ t + 60 → StAt H' d c t' → Kp d c H H' → Q (.ref p) H'
abbrev sOrdered : Stmt := topS 33
theorem scOrdered : FnScope ["_law_state", "_law_runs_here", "_law_found", "_law_span"] ["_law_state", "_law_runs_here"] (defScope sOrdered) := ⟨rfl, rfl, rfl, by decide +kernel, rfl, by decide +kernel, by decide +kernel⟩
section
variable {K : PySem.W.Frag} {mg : Str → Option Value} {P : Program} {w : World} {base : Heap} {Ms : GX.Mq} {Xs : List Addr} {Pc Pt Pn Pr Pb Pe Py Ps : Addr}
theorem ok_LCost {f : Addr} {fd : FuncData} (F : Fun K "_law_cost" "_law_cost" sLCost f fd) (C_least_cost : Cal P w K mg base 5 "least_cost" ["prices", "runs"] (spCost K Ms Xs Pc Pt)) (C__law_cost_shown : Cal P w K mg base 2 "_law_cost_shown" ["_law_prices_here", "_law_runs_here", "_law_told"] (spShown K)) (C_shows_cost : Cal P w K mg base 9 "shows_cost" ["prices", "runs", "told"] (spShows K Ms Xs Pn Pr Pb Pe Py Ps)) (m_list : mg "list" = none) : FnOk P w K mg base CX0 10 f fd ["_law_prices_here", "_law_runs_here"] (spLCost K Ms Xs Pc Pt Pn Pr Pb Pe Py Ps) := by
  refine F.ok scLCost (fun vs H Q E h => ?_) (fun cdv A outer s H vs Q E hr h => ?_)
  · obtain ⟨a, b, ps, rs, rfl, _⟩ := h
    rfl
  · obtain ⟨a, b, ps, rs, rfl, hA, hB, hps, hp0, hpz, hrz, hr0, hT, hM, q⟩ := h
    refine ⟨_, pss_cons (ps_set (i := 2) scLCost.nd rfl (.inl rfl) (pe_own C_least_cost (hr.mono (show 5 ≤ 9 by decide)) (by rfl) (pa_cons (pe_callTy call_list_of (by rfl) m_list (by decide +kernel) (pa_cons (pv 0) pa_nil)) (pa_cons (pe_callTy call_list_of (by rfl) m_list (by decide +kernel) (pa_cons (pv 1) pa_nil)) pa_nil))))
      (pss_cons (ps_if (PW.pt (pw_or (pt_not (pt_val (pe_own C__law_cost_shown (hr.mono (show 2 ≤ 9 by decide)) (by rfl) (pa_cons (pv 0) (pa_cons (pv 1) (pa_cons (pv 2) pa_nil)))))) (pw_or1 (pt_cmpR op_notBl (pe_own C_shows_cost hr (by rfl) (pa_cons (pe_callTy call_list_of (by rfl) m_list (by decide +kernel) (pa_cons (pv 0) pa_nil)) (pa_cons (pe_callTy call_list_of (by rfl) m_list (by decide +kernel) (pa_cons (pv 1) pa_nil)) (pa_cons (pv 2) pa_nil)))) pe_bl (nomark _))))) (pss_one (ps_ret pe_non))
        pss_nil)
      (pss_one (ps_ret (pe_ix ix_tup (pv 2) pe_int (fun _ _ => rfl))))), ?_⟩
    obtain ⟨us, eB, pr⟩ := id hB
    have hA' : H a = some (.lst (ps.map V.int)) := hA
    refine ⟨_, rfl, a, _, rfl, .inl (SqL.of hA'), fun l nl => ?_⟩
    have sl := same_upd (o := .lst (ps.map V.int)) nl
    have el : upd H l (.lst (ps.map V.int)) l = some (.lst (ps.map V.int)) := upd_same
    generalize upd H l (.lst (ps.map V.int)) = H1 at sl el
    refine ⟨_, rfl, b, _, rfl, .inl (SqL.of (sl _ _ eB)), fun r nr => ?_⟩
    have sr := same_upd (o := .lst us) nr
    have er : upd H1 r (.lst us) r = some (.lst us) := upd_same
    generalize upd H1 r (.lst us) = H2 at sr er
    have s2 := sl.trans sr
    have hB2 : LsQ H2 r rs := ⟨us, .inl er, pr.1, fun i x e => let ⟨y, h1, h2⟩ := pr.2 i x e; ⟨y, h1, s2 _ _ h2⟩⟩
    refine ⟨l, r, ps, rs, rfl, .inl (sr _ _ el), hB2, hps, hpz, hrz, hr0, hT.same s2, hM.c, hM.t, fun H3 T L D co pl ds n3 t3 nT nL nD nLD eT eL eD hok => ?_⟩
    have n03 := (NoTab.same s2).trans n3
    refine ⟨_, rfl, _, rfl, _, rfl, a, b, T, L, D, ps, rs, co, pl, ds, rfl, n03.lst hA, hB.noTab n03, hps, hp0, hpz, hrz, hr0, eT, eL, eD, hok, fun H4 s4 => ⟨_, rfl, ite2 (fun z => nomatch z) (fun _ => ?_)⟩⟩
    have n04 := n03.trans (NoTab.same s4)
    refine ⟨_, rfl, a, _, rfl, .inl (SqL.of (n04.lst hA')), fun l2 nl2 => ?_⟩
    have sl2 := same_upd (o := .lst (ps.map V.int)) nl2
    have el2 : upd H4 l2 (.lst (ps.map V.int)) l2 = some (.lst (ps.map V.int)) := upd_same
    generalize upd H4 l2 (.lst (ps.map V.int)) = H5 at sl2 el2
    refine ⟨_, rfl, b, _, rfl, .inl (SqL.of (sl2 _ _ (n04.lst eB))), fun r2 nr2 => ?_⟩
    have sr2 := same_upd (o := .lst us) nr2
    have er2 : upd H5 r2 (.lst us) r2 = some (.lst us) := upd_same
    generalize upd H5 r2 (.lst us) = H6 at sr2 er2
    have s46 := sl2.trans sr2
    have n06 := n04.trans (NoTab.same s46)
    have eT6 := s46 _ _ (s4 _ _ eT)
    have eL6 : H6 L = some (.lst (pl.map V.int)) := s46 _ _ (s4 _ _ eL)
    have eD6 : H6 D = some (.lst (ds.map V.int)) := s46 _ _ (s4 _ _ eD)
    refine ⟨_, rfl, l2, r2, T, L, D, ps, rs, co, pl, ds, rfl, .inl (sr2 _ _ el2), ⟨us, .inl er2, pr.1, fun i x e => let ⟨y, h1, h2⟩ := pr.2 i x e; ⟨y, h1, n06.tup h2⟩⟩, hps, eT6, .inl eL6, .inl eD6, hok, (t3.same s4).same s46, hM.m, fun H7 n7 t7 => ⟨true, true, rfl, rfl, _, rfl, ite2 (fun z => by cases z) (fun _ => ?_)⟩⟩
    exact ⟨_, rfl, T, _, 0, _, rfl, rfl, .inl (.inl (n7.tup eT6)), atI_nat (j := 0) rfl, q H7 co (n06.trans n7) t7 hok.least⟩
theorem ok_Ordered {f : Addr} {fd : FuncData} (F : Fun K "_law_ordered" "_law_ordered" sOrdered f fd) (C__law_take : Cal P w K mg base 1 "_law_take" ["_law_state", "_law_many"] spTake) (m_len : mg "len" = none) : FnOk P w K mg base CX0 2 f fd ["_law_state", "_law_runs_here"] spOrdered := by
  refine F.ok scOrdered (fun vs H Q E h => ?_) (fun cdv A outer s H vs Q E hr h => ?_)
  · obtain ⟨d, c, m, t, rs, rfl, _⟩ := h
    rfl
  · obtain ⟨d, c, m, t, rs, rfl, hS, ht, hm, md, mc, hml, q⟩ := h
    refine ⟨_, pss_cons (ps_set (i := 2) scOrdered.nd rfl (.inl rfl) (pe_lst pa_nil))
      (pss_cons (ps_for PassesOwn.never rfl (pi_list (pv 1)) (pg_name (i := 3) scOrdered.nd rfl (.inl rfl))
        (pss_one (ps_expr (pe_bm PySem.F.plainAttrs_list PySem.F.slot_list_insert PySem.F.type_list_insert mt_insert (pv 2) (pa_cons (pe_own C__law_take hr (by rfl) (pa_cons (pv 0) (pa_cons (pe_op op_add (pe_callB call_len_seq (by rfl) m_len PySem.boot_len (pa_cons (pv 2) pa_nil)) pe_int) pa_nil))) (pa_cons (pv 3) pa_nil))))))
      (pss_one (ps_ret (pv 2)))), ?_⟩
    obtain ⟨us, em, pr⟩ := id hm
    have lus : us.length = rs.length := pr.1
    refine ⟨Nat.zero_le _, fun p np => ?_⟩
    have sp := same_upd (o := .lst []) np
    have offp := hS.off np
    have tupK : ∀ {T : Addr} {xs : List V} {H' : Hp}, Kp d c H H' → H T = some (.tup xs) → H' T = some (.tup xs) := fun k e => by
      obtain ⟨cs, ec, _⟩ := hS.cells
      exact k _ _ (ne_of e hS.dict (fun z => nomatch z)) (ne_of e ec (fun z => nomatch z)) e
    refine ⟨_, rfl, m, rfl, ⟨_, SqL.of (sp _ _ em)⟩, for_list (xs := us) (fun i σ Hx => ∃ (ws : List V) (l : List (Int × Int)) (t' : Int) (y3 : Option V), σ = [some (.ref d), some (.ref m), some (.ref p), y3] ∧ l.length = i ∧ ws.length = i ∧ (∀ o, o ∈ rs.take i ↔ o ∈ l) ∧ (∀ (j : Nat) r, l[j]? = some r → ∃ T, ws[j]? = some (.ref T) ∧ H T = some (.tup [.int r.1, .int r.2])) ∧ Hx p = some (.lst ws) ∧ t ≤ t' ∧ t' ≤ t + i ∧ StAt Hx d c t' ∧ Kp d c H Hx) ⟨[], [], t, _, rfl, rfl, rfl, fun o => by simp, fun j r e => by simp at e, upd_same, by omega, by omega, hS.same sp, fun b o _ _ e => sp b o e⟩ (fun i σ Hx _ hP => ?_) (fun i x σ Hx hx hP => ?_) (fun σ Hx hP => ?_)⟩
    · obtain ⟨ws, l, t', y3, rfl, ll, lw, hl, hT, ep, t1, t2, hSx, kx⟩ := hP
      exact SqL.of (kx _ _ md mc em)
    · obtain ⟨ws, l, t', y3, rfl, ll, lw, hl, hT, ep, t1, t2, hSx, kx⟩ := hP
      obtain ⟨r, T, er, rfl, eT⟩ := prs_at pr hx
      have hi : i < rs.length := (List.getElem?_eq_some_iff.mp er).1
      refine ⟨_, rfl, .inl ⟨rfl, _, SqL.of ep⟩, _, rfl, _, rfl, p, _, rfl, .inl (SqL.of ep), _, _, rfl, rfl, d, c, t', (i : Int) + 1, by rw [lw]; rfl, hSx, by omega, by omega, by omega, fun r1 H3 r10 r11 hS3 k3 => ?_⟩
      have ep3 := k3 _ _ offp.1 offp.2 ep
      obtain ⟨k, rfl⟩ := Int.eq_ofNat_of_zero_le r10
      refine ⟨_, rfl, p, _, (k : Int), _, rfl, rfl, ep3, small1000 (by rw [lw]; omega), r10, by omega, ?_⟩
      rw [Int.toNat_natCast]
      refine ⟨ws.take k ++ [.ref T] ++ ws.drop k, l.take k ++ [r] ++ l.drop k, t' + 1, _, rfl, ?_, ?_, fun z => ?_, fun j r2 e => ?_, upd_same, by omega, by omega, hS3.upd offp.1 offp.2, fun b u b1 b2 e => ?_⟩
      · simp only [List.length_append, List.length_take, List.length_drop, List.length_singleton]; omega
      · simp only [List.length_append, List.length_take, List.length_drop, List.length_singleton]; omega
      · rw [List.take_add_one, er, List.mem_append, hl z]
        have : z ∈ l ↔ z ∈ l.take k ∨ z ∈ l.drop k := by
          rw [← List.mem_append, List.take_append_drop]
        rw [this]
        simp only [Option.toList, List.mem_append, List.mem_singleton]
        constructor
        · rintro ((h | h) | h)
          · exact .inl (.inl h)
          · exact .inr h
          · exact .inl (.inr h)
        · rintro ((h | h) | h)
          · exact .inl (.inl h)
          · exact .inr h
          · exact .inl (.inr h)
      · have hk : k ≤ i := by omega
        by_cases c1 : j < k
        · rw [List.append_assoc, List.getElem?_append_left (by rw [List.length_take]; omega), List.getElem?_take_of_lt c1] at e
          rw [List.append_assoc, List.getElem?_append_left (by rw [List.length_take]; omega), List.getElem?_take_of_lt c1]
          exact hT j r2 e
        · by_cases c2 : j = k
          · subst c2
            rw [List.append_assoc, List.getElem?_append_right (by rw [List.length_take]; omega), List.length_take, Nat.min_eq_left (by omega), Nat.sub_self] at e
            cases e
            rw [List.append_assoc, List.getElem?_append_right (by rw [List.length_take]; omega), List.length_take, Nat.min_eq_left (by omega), Nat.sub_self]
            exact ⟨T, rfl, eT⟩
          · have hj : j - (k + 1) + k = j - 1 := by omega
            rw [List.getElem?_append_right (by simp only [List.length_append, List.length_take, List.length_singleton]; omega), List.getElem?_drop] at e
            rw [List.getElem?_append_right (by simp only [List.length_append, List.length_take, List.length_singleton]; omega), List.getElem?_drop]
            simp only [List.length_append, List.length_take, List.length_singleton] at e ⊢
            rw [Nat.min_eq_left (by omega), show k + (j - (k + 1)) = j - 1 by omega] at e
            rw [Nat.min_eq_left (by omega), show k + (j - (k + 1)) = j - 1 by omega]
            exact hT (j - 1) r2 e
      · have nb : b ≠ p := ne_of_none e np
        rw [upd_ne nb]
        exact k3 _ _ b1 b2 (kx b u b1 b2 e)
    · obtain ⟨ws, l, t', y3, rfl, ll, lw, hl, hT, ep, t1, t2, hSx, kx⟩ := hP
      rw [lus] at ll lw hl t2
      rw [List.take_length] at hl
      exact ⟨_, rfl, q p Hx l t' np hl ll ⟨ws, ep, lw.trans ll.symm, fun j r e => let ⟨T, a1, a2⟩ := hT j r e; ⟨T, a1, tupK kx a2⟩⟩ t1 (by omega) hSx kx⟩
end

/-! ### great numbers -/
abbrev sGreat : Stmt := topS 26
theorem scGreat : FnScope ["_law_state", "_law_parts", "_law_turn"] ["_law_state"] (defScope sGreat) := ⟨rfl, rfl, rfl, by decide +kernel, rfl, by decide +kernel, by decide +kernel⟩
def spGreat : Sp := fun vs H Q _ => ∃ (d c : Addr) (t : Int), vs = [.ref d] ∧ StAt H d c t ∧ t + 3 < 2 ^ 60 ∧ ∀ r H', 0 ≤ r → r < 10 ^ 30 → StAt H' d c (t + 3) → Kp d c H H' → Q (.int r) H'
section
variable {K : PySem.W.Frag} {mg : Str → Option Value} {P : Program} {w : World} {base : Heap}
theorem ok_great {f : Addr} {fd : FuncData} (F : Fun K "_law_great" "_law_great" sGreat f fd) (CT : Cal P w K mg base 1 "_law_take" ["_law_state", "_law_many"] spTake) (mr : mg "range" = none) : FnOk P w K mg base CX0 2 f fd ["_law_state"] spGreat := by
  refine F.ok scGreat (fun vs H Q E h => ?_) (fun cdv A outer s H vs Q E hr h => ?_)
  · obtain ⟨d, c, t, rfl, _⟩ := h
    rfl
  · obtain ⟨d, c, t, rfl, hS, ht, q⟩ := h
    refine ⟨_, pss_cons (ps_setLc (i := 1) (own := [("_law_turn", 2)]) (g := gName 2) (tt := tYes) (te := tCall spTake [] E0 (tCons (tVar 0) (tCons (tOp (rI CPow fun i j => .int (i ^ j.toNat)) (tC (.int 10)) (tC (.int 10))) tNil))) rfl scGreat.nd rfl rfl rfl (pi_range1 rfl mr (pa_cons pe_int pa_nil))
            (blkOk_by (own := [("_law_turn", 2)]) (N := ["_law_state", "_law_parts", "_law_turn"]) (sc := defScope sGreat) (by decide +kernel)) (fun _ _ _ _ _ => pg_name (i := 2) scGreat.nd rfl (.inl rfl)) (fun _ _ _ _ _ => pts_nil) (fun _ _ _ _ _ => pe_own CT hr (by rfl) (pa_cons (pv 0) (pa_cons (pe_op op_pow pe_int pe_int) pa_nil))))
      (pss_one (ps_ret (pe_op op_add (pe_op op_add (pe_op op_mul (pe_ix ix_list (pv 1) pe_int (fun _ _ => rfl)) (pe_op op_pow pe_int pe_int)) (pe_op op_mul (pe_ix ix_list (pv 1) pe_int (fun _ _ => rfl)) (pe_op op_pow pe_int pe_int))) (pe_ix ix_list (pv 1) pe_int (fun _ _ => rfl))))), ?_⟩
    refine ⟨3, rfl, by decide, by decide, fun D nD => lc_range (n := 3) (fun j H' => ∃ ns : List Int, H' D = some (.lst (ns.map V.int)) ∧ ns.length = j ∧ (∀ x ∈ ns, 0 ≤ x ∧ x < 10 ^ 10) ∧ StAt H' d c (t + j) ∧ Kp d c H H') ⟨[], upd_same, rfl, (fun _ z => nomatch z), (by show StAt _ d c (t + 0); rw [Int.add_zero]; exact hS.same (same_upd nD)), Kp.same d c (same_upd nD)⟩ (fun j H' hj hP => ?_) (fun H1 hP => ?_)⟩
    · obtain ⟨ns, eD, hl, hns, hS', k'⟩ := hP
      have offD := hS.off nD
      refine ⟨rfl, _, rfl, 10, 10, rfl, rfl, ⟨by decide, by decide, by decide⟩, d, c, t + j, 10 ^ 10, rfl, hS', by omega, by decide, by decide, fun r H2 r0 r1 hS2 k2 => ?_⟩
      refine ⟨_, k2 _ _ offD.1 offD.2 eD, small1000 (by rw [List.length_map]; omega), ns ++ [r], by rw [upd_same, List.map_append]; rfl, by rw [List.length_append, hl]; rfl, fun x hx => ?_, ?_, fun b o b1 b2 e => ?_⟩
      · rcases List.mem_append.mp hx with z | z
        · exact hns x z
        · rw [List.mem_singleton.mp z]; exact ⟨r0, r1⟩
      · have ej : t + ((j + 1 : Nat) : Int) = t + (j : Int) + 1 := by omega
        rw [ej]
        exact hS2.upd offD.1 offD.2
      · rw [upd_ne (ne_of_none e nD)]
        exact k2 b o b1 b2 (k' b o b1 b2 e)
    · obtain ⟨ns, eD, hl, hns, hS1, k1⟩ := hP
      match ns, hl with
      | [x, y, z], _ =>
        obtain ⟨x0, x1⟩ := hns x (by simp)
        obtain ⟨y0, y1⟩ := hns y (by simp)
        obtain ⟨z0, z1⟩ := hns z (by simp)
        refine ⟨_, rfl, D, _, 0, .int x, rfl, rfl, SqL.of eD, rfl, 10, 20, rfl, rfl, ⟨by decide, by decide, by decide⟩, x, 10 ^ 20, rfl, rfl, .inl ⟨by omega, by omega⟩, ?_⟩
        refine ⟨_, rfl, D, _, 1, .int y, rfl, rfl, SqL.of eD, rfl, 10, 10, rfl, rfl, ⟨by decide, by decide, by decide⟩, y, 10 ^ 10, rfl, rfl, .inl ⟨by omega, by omega⟩, x * 10 ^ 20, y * 10 ^ 10, rfl, rfl, ?_⟩
        refine ⟨_, rfl, D, _, 2, .int z, rfl, rfl, SqL.of eD, rfl, x * 10 ^ 20 + y * 10 ^ 10, z, rfl, rfl, ?_⟩
        exact q _ H1 (by omega) (by omega) hS1 k1
end

/-! ### prices drawn -/
theorem Kp.gone' {H H' : Hp} {d c p : Addr} {t t' : Int} (S : StAt H d c t) (k : Kp d c H H') (S' : StAt H' d c t') (n : H' p = none) : H p = none := by
  have off := S'.off n
  cases e : H p with
  | none => rfl
  | some o =>
    rw [k p o off.1 off.2 e] at n
    cases n
theorem IntsA.kp {H H' : Hp} {d c a : Addr} {ns : List Int} (h : IntsA H a ns) (k : Kp d c H H') (n : a ≠ d ∧ a ≠ c) : IntsA H' a ns := k _ _ n.1 n.2 h
def spPrices : Sp := fun vs H Q _ => ∃ (d c : Addr) (t many : Int), vs = [.ref d, .int many] ∧ StAt H d c t ∧ t < 2 ^ 58 ∧ 0 ≤ many ∧ many ≤ 900 ∧
  ∀ l ps t' H', H l = none → IntsA H' l ps → (∀ x ∈ ps, 0 ≤ x ∧ x < 10 ^ 31) → (ps.length : Int) = many → t ≤ t' → t' ≤ t + 2 + 10 * many → StAt H' d c t' → Kp d c H H' → Q (.ref l) H'
abbrev sPrices : Stmt := topS 28
theorem scPrices : FnScope ["_law_state", "_law_many", "_law_sort", "_law_like", "_law_found", "_law_place", "_law_some"] ["_law_state", "_law_many"] (defScope sPrices) := ⟨rfl, rfl, rfl, by decide +kernel, rfl, by decide +kernel, by decide +kernel⟩
section
variable {K : PySem.W.Frag} {mg : Str → Option Value} {P : Program} {w : World} {base : Heap}
theorem ok_Prices {f : Addr} {fd : FuncData} (F : Fun K "_law_prices" "_law_prices" sPrices f fd) (C__law_take : Cal P w K mg base 1 "_law_take" ["_law_state", "_law_many"] spTake) (C__law_great : Cal P w K mg base 2 "_law_great" ["_law_state"] spGreat) (m_range : mg "range" = none) : FnOk P w K mg base CX0 3 f fd ["_law_state", "_law_many"] spPrices := by
  refine F.ok scPrices (fun vs H Q E h => ?_) (fun cdv A outer s H vs Q E hr h => ?_)
  · obtain ⟨d, c, t, many, rfl, _⟩ := h
    rfl
  · obtain ⟨d, c, t, many, rfl, hS, ht, m0, m1, q⟩ := h
    refine ⟨_, pss_cons (ps_par rfl scPrices.nd (i := 2) (j := 3) rfl rfl (by decide) rfl rfl (pa_cons (pe_own C__law_take (hr.mono (show 1 ≤ 2 by decide)) (by rfl) (pa_cons (pv 0) (pa_cons pe_int pa_nil))) (pa_cons (pe_own C__law_take (hr.mono (show 1 ≤ 2 by decide)) (by rfl) (pa_cons (pv 0) (pa_cons pe_int pa_nil))) pa_nil)) (by rfl))
      (pss_cons (ps_set (i := 4) scPrices.nd rfl (.inl rfl) (pe_lst pa_nil))
      (pss_cons (ps_for PassesOwn.never rfl (pi_range1 rfl m_range (pa_cons (pv 1) pa_nil)) (pg_name (i := 5) scPrices.nd rfl (.inl rfl))
        (pss_cons (ps_set (i := 6) scPrices.nd rfl (.inl rfl) (pe_lst (pa_cons (pe_own C__law_take (hr.mono (show 1 ≤ 2 by decide)) (by rfl) (pa_cons (pv 0) (pa_cons pe_int pa_nil))) (pa_cons (pv 3) (pa_cons (pe_op op_mulW (pe_op op_fdivW (pe_own C__law_take (hr.mono (show 1 ≤ 2 by decide)) (by rfl) (pa_cons (pv 0) (pa_cons pe_int pa_nil))) pe_int) (pe_own C__law_take (hr.mono (show 1 ≤ 2 by decide)) (by rfl) (pa_cons (pv 0) (pa_cons pe_int pa_nil)))) (pa_cons (pe_own C__law_great hr (by rfl) (pa_cons (pv 0) pa_nil)) pa_nil))))))
        (pss_cons (ps_expr (pe_bm PySem.F.plainAttrs_list PySem.F.slot_list_append PySem.F.type_list_append mt_append (pv 6) (pa_cons (pe_ix ix_list (pv 6) (pe_own C__law_take (hr.mono (show 1 ≤ 2 by decide)) (by rfl) (pa_cons (pv 0) (pa_cons pe_int pa_nil))) (fun _ _ => rfl)) pa_nil)))
        (pss_one (ps_expr (pe_bm PySem.F.plainAttrs_list PySem.F.slot_list_append PySem.F.type_list_append mt_append (pv 4) (pa_cons (pe_ix ix_list (pv 6) (pv 2) (fun _ _ => rfl)) pa_nil)))))))
      (pss_one (ps_ret (pv 4))))), ?_⟩
    refine ⟨_, rfl, d, c, t, 5, rfl, hS, by omega, by decide, by decide, fun so H1 so0 so1 hS1 k1 => ?_⟩
    refine ⟨_, rfl, d, c, t + 1, 9, rfl, hS1, by omega, by decide, by decide, fun li H2 li0 li1 hS2 k2 => ?_⟩
    refine ⟨_, _, rfl, Nat.zero_le _, fun p np => ?_⟩
    have sp := same_upd (o := .lst []) np
    have offp := hS2.off np
    have np0 := Kp.gone' hS (k1.trans k2) hS2 np
    refine ⟨_, rfl, many, rfl, by omega, by omega, for_range (n := many.toNat) (fun i σ Hx => ∃ (ps : List Int) (t' : Int) (y5 y6 : Option V), σ = [some (.ref d), some (.int many), some (.int so), some (.int li), some (.ref p), y5, y6] ∧ IntsA Hx p ps ∧ (∀ x ∈ ps, 0 ≤ x ∧ x < 10 ^ 31) ∧ ps.length = i ∧ t ≤ t' ∧ t' ≤ t + 2 + 10 * (i : Int) ∧ StAt Hx d c t' ∧ Kp d c H Hx) ⟨[], t + 1 + 1, _, _, rfl, upd_same, (fun _ h => nomatch h), rfl, by omega, by omega, hS2.same sp, (k1.trans k2).trans (Kp.same d c sp)⟩ (fun i σ Hx hi hP => ?_) (fun σ Hx hP => ?_)⟩
    · obtain ⟨ps, t', y5, y6, rfl, eP, hall, hl, u0, u1, hS3, k3⟩ := hP
      refine ⟨_, rfl, d, c, t', 9, rfl, hS3, by omega, by decide, by decide, fun a1 H4 a10 a11 hS4 k4 => ?_⟩
      refine ⟨_, rfl, _, rfl, d, c, t' + 1, 3, rfl, hS4, by omega, by decide, by decide, fun a2 H5 a20 a21 hS5 k5 => ?_⟩
      refine ⟨a2, 2, rfl, rfl, ⟨by decide, by decide +kernel⟩, ?_⟩
      refine ⟨_, rfl, d, c, t' + 1 + 1, 40, rfl, hS5, by omega, by decide, by decide, fun a3 H6 a30 a31 hS6 k6 => ?_⟩
      refine ⟨a2 / 2, a3, rfl, rfl, ?_, ?_⟩
      · have l1 := Nat.log2_le_self (a2 / 2).natAbs
        have l2 := Nat.log2_le_self a3.natAbs
        show (a2 / 2).natAbs.log2 + a3.natAbs.log2 < 1000000
        omega
      refine ⟨_, rfl, d, c, t' + 1 + 1 + 1, rfl, hS6, by omega, fun a4 H7 a40 a41 hS7 k7 => ⟨(by show 4 ≤ sizeLine; decide), fun z nz => ?_⟩⟩
      have sz := same_upd (o := .lst [.int a1, .int li, .int (a2 / 2 * a3), .int a4]) nz
      have offz := hS7.off nz
      have eP7 := (((eP.kp k4 offp).kp k5 offp).kp k6 offp).kp k7 offp
      have npz : p ≠ z := ne_of_none eP7 nz
      have hS8 := hS7.same sz
      have ez : upd H7 z (.lst [.int a1, .int li, .int (a2 / 2 * a3), .int a4]) z = some (.lst [.int a1, .int li, .int (a2 / 2 * a3), .int a4]) := upd_same
      refine ⟨_, rfl, .inl ⟨rfl, _, SqL.of ez⟩, _, rfl, _, rfl, d, c, _, 4, rfl, hS8, by omega, by decide, by decide, fun a5 H8 a50 a51 hS9 k8 => ?_⟩
      have ez8 := k8 _ _ offz.1 offz.2 ez
      obtain ⟨v, ev, hv⟩ := pick_at (xs := [V.int a1, V.int li, V.int (a2 / 2 * a3), V.int a4]) (n := 4) rfl a50 (by omega)
      have h3 : 0 ≤ a2 / 2 * a3 ∧ a2 / 2 * a3 < 10 ^ 31 := by
        have c1 : a2 / 2 = 0 ∨ a2 / 2 = 1 := by omega
        rcases c1 with c | c <;> rw [c] <;> omega
      obtain ⟨vi, rfl, hvi⟩ : ∃ vi : Int, v = .int vi ∧ 0 ≤ vi ∧ vi < 10 ^ 31 := by
        simp only [List.mem_cons, List.not_mem_nil, or_false] at hv
        rcases hv with rfl | rfl | rfl | rfl
        · exact ⟨_, rfl, by omega, by omega⟩
        · exact ⟨_, rfl, by omega, by omega⟩
        · exact ⟨_, rfl, h3⟩
        · exact ⟨_, rfl, by omega, by omega⟩
      refine ⟨z, _, _, _, rfl, rfl, SqL.of ez8, ev, z, _, _, rfl, rfl, ez8, (by show 4 < sizeLine; decide), ?_⟩
      obtain ⟨u, eu, hu⟩ := pick_at (xs := [V.int a1, V.int li, V.int (a2 / 2 * a3), V.int a4, V.int vi]) (n := 5) rfl so0 (by omega)
      obtain ⟨ui, rfl, hui⟩ : ∃ ui : Int, u = .int ui ∧ 0 ≤ ui ∧ ui < 10 ^ 31 := by
        simp only [List.mem_cons, List.not_mem_nil, or_false] at hu
        rcases hu with rfl | rfl | rfl | rfl | rfl
        · exact ⟨_, rfl, by omega, by omega⟩
        · exact ⟨_, rfl, by omega, by omega⟩
        · exact ⟨_, rfl, h3⟩
        · exact ⟨_, rfl, by omega, by omega⟩
        · exact ⟨_, rfl, hvi⟩
      have eP8 : upd H8 z (.lst ([V.int a1, V.int li, V.int (a2 / 2 * a3), V.int a4] ++ [V.int vi])) p = some (.lst (ps.map V.int)) := by
        rw [upd_ne npz]
        exact k8 _ _ offp.1 offp.2 (sz _ _ eP7)
      refine ⟨_, rfl, .inl ⟨rfl, _, SqL.of eP8⟩, _, rfl, _, rfl, z, _, _, _, rfl, rfl, SqL.of upd_same, eu, p, _, _, rfl, rfl, eP8, small1000 (by rw [List.length_map]; omega), ?_⟩
      refine ⟨ps ++ [ui], _, _, _, rfl, by show upd _ _ _ _ = _; rw [upd_same, List.map_append]; rfl, fun x hx => (List.mem_append.mp hx).elim (hall x) (fun z => by rw [List.mem_singleton.mp z]; exact hui), by rw [List.length_append, hl]; rfl, ?_, ?_, (hS9.upd offz.1 offz.2).upd offp.1 offp.2, fun b o b1 b2 e => ?_⟩
      · omega
      · omega
      · have nz0 := Kp.gone' hS (((((k3.trans k4).trans k5).trans k6).trans k7)) hS7 nz
        rw [upd_ne (ne_of_none e np0), upd_ne (ne_of_none e nz0)]
        exact k8 b o b1 b2 (sz _ _ (k7 b o b1 b2 (k6 b o b1 b2 (k5 b o b1 b2 (k4 b o b1 b2 (k3 b o b1 b2 e))))))
    · obtain ⟨ps, t', y5, y6, rfl, eP, hall, hl, u0, u1, hS3, k3⟩ := hP
      exact ⟨_, rfl, q p ps t' Hx np0 eP hall (by omega) u0 (by omega) hS3 k3⟩
end

/-! ### prices and runs drawn -/
def spCase : Sp := fun vs H Q _ => ∃ (d c : Addr) (t many most : Int), vs = [.ref d, .int many, .int most] ∧ StAt H d c t ∧ t < 2 ^ 57 ∧ 1 ≤ many ∧ many ≤ 60 ∧ 1 ≤ most ∧ most ≤ 60 ∧
  ∀ (T l r : Addr) ps rs t' H', H' T = some (.tup [.ref l, .ref r]) → IntsA H' l ps → LsA H' r rs → (∀ x ∈ ps, 0 ≤ x ∧ x < 10 ^ 31) → 1 ≤ rs.length → 1 ≤ ps.length → (ps.length : Int) ≤ many → (rs.length : Int) ≤ most → RunIn ps.length rs → l ≠ d ∧ l ≠ c → r ≠ d ∧ r ≠ c → t ≤ t' → t' ≤ t + 7 + 20 * many + 20 * most → StAt H' d c t' → Kp d c H H' → Q (.ref T) H'
abbrev sCase : Stmt := topS 29
theorem scCase : FnScope ["_law_state", "_law_many", "_law_most", "_law_places", "_law_count"] ["_law_state", "_law_many", "_law_most"] (defScope sCase) := ⟨rfl, rfl, rfl, by decide +kernel, rfl, by decide +kernel, by decide +kernel⟩
section
variable {K : PySem.W.Frag} {mg : Str → Option Value} {P : Program} {w : World} {base : Heap}
theorem ok_Case {f : Addr} {fd : FuncData} (F : Fun K "_law_price_case" "_law_price_case" sCase f fd) (C__law_take : Cal P w K mg base 1 "_law_take" ["_law_state", "_law_many"] spTake) (C__law_prices : Cal P w K mg base 3 "_law_prices" ["_law_state", "_law_many"] spPrices) (C__law_runs : Cal P w K mg base 2 "_law_runs" ["_law_state", "_law_many", "_law_most", "_law_wide"] spRuns) : FnOk P w K mg base CX0 4 f fd ["_law_state", "_law_many", "_law_most"] spCase := by
  refine F.ok scCase (fun vs H Q E h => ?_) (fun cdv A outer s H vs Q E hr h => ?_)
  · obtain ⟨d, c, t, many, most, rfl, _⟩ := h
    rfl
  · obtain ⟨d, c, t, many, most, rfl, hS, ht, m0, m1, o0, o1, q⟩ := h
    refine ⟨_, pss_cons (ps_set (i := 3) scCase.nd rfl (.inl rfl) (pe_op op_add pe_int (pe_ix ix_list (pe_lst (pa_cons (pe_op op_sub (pv 1) pe_int) (pa_cons (pe_own C__law_take (hr.mono (show 1 ≤ 3 by decide)) (by rfl) (pa_cons (pv 0) (pa_cons (pv 1) pa_nil))) pa_nil))) (pe_own C__law_take (hr.mono (show 1 ≤ 3 by decide)) (by rfl) (pa_cons (pv 0) (pa_cons pe_int pa_nil))) (fun _ _ => rfl))))
      (pss_cons (ps_set (i := 4) scCase.nd rfl (.inl rfl) (pe_ix ix_list (pe_lst (pa_cons (pv 2) (pa_cons (pe_op op_add pe_int (pe_own C__law_take (hr.mono (show 1 ≤ 3 by decide)) (by rfl) (pa_cons (pv 0) (pa_cons (pv 2) pa_nil)))) pa_nil))) (pe_own C__law_take (hr.mono (show 1 ≤ 3 by decide)) (by rfl) (pa_cons (pv 0) (pa_cons pe_int pa_nil))) (fun _ _ => rfl)))
      (pss_one (ps_ret (pe_tup (pa_cons (pe_own C__law_prices hr (by rfl) (pa_cons (pv 0) (pa_cons (pv 3) pa_nil))) (pa_cons (pe_own C__law_runs (hr.mono (show 2 ≤ 3 by decide)) (by rfl) (pa_cons (pv 0) (pa_cons (pv 4) (pa_cons (pe_op op_sub (pv 3) pe_int) (pa_cons (pe_ix ix_list (pe_lst (pa_cons pe_int (pa_cons pe_int (pa_cons pe_int (pa_cons pe_int pa_nil))))) (pe_own C__law_take (hr.mono (show 1 ≤ 3 by decide)) (by rfl) (pa_cons (pv 0) (pa_cons pe_int pa_nil))) (fun _ _ => rfl)) pa_nil))))) pa_nil)))))), ?_⟩
    refine ⟨_, rfl, many, 1, rfl, rfl, _, rfl, _, rfl, d, c, t, many, rfl, hS, by omega, by omega, by omega, fun a1 H1 a10 a11 hS1 k1 => ⟨(by show 2 ≤ sizeLine; decide), fun z nz => ?_⟩⟩
    have sz := same_upd (o := .lst [.int (many - 1), .int a1]) nz
    have offz := hS1.off nz
    refine ⟨_, rfl, d, c, t + 1, 2, rfl, hS1.same sz, by omega, by decide, by decide, fun a2 H2 a20 a21 hS2 k2 => ?_⟩
    have ez := k2 _ _ offz.1 offz.2 (upd_same (H := H1) (a := z) (o := .lst [.int (many - 1), .int a1]))
    obtain ⟨v, ev, hv⟩ := pick_at (xs := [V.int (many - 1), V.int a1]) (n := 2) rfl a20 (by omega)
    obtain ⟨pm, rfl, pm0, pm1⟩ : ∃ vi : Int, v = .int vi ∧ 0 ≤ vi ∧ vi < many := by
      simp only [List.mem_cons, List.not_mem_nil, or_false] at hv
      rcases hv with rfl | rfl
      · exact ⟨_, rfl, by omega, by omega⟩
      · exact ⟨_, rfl, by omega, by omega⟩
    refine ⟨z, _, _, _, rfl, rfl, SqL.of ez, ev, 1, pm, rfl, rfl, ?_⟩
    have k12 := (k1.trans (Kp.same d c sz)).trans k2
    refine ⟨_, rfl, _, rfl, _, rfl, d, c, t + 1 + 1, most, rfl, hS2, by omega, by omega, by omega, fun a3 H3 a30 a31 hS3 k3 => ⟨1, a3, rfl, rfl, (by show 2 ≤ sizeLine; decide), fun y ny => ?_⟩⟩
    have sy := same_upd (o := .lst [.int most, .int (1 + a3)]) ny
    have offy := hS3.off ny
    refine ⟨_, rfl, d, c, t + 1 + 1 + 1, 2, rfl, hS3.same sy, by omega, by decide, by decide, fun a4 H4 a40 a41 hS4 k4 => ?_⟩
    have ey := k4 _ _ offy.1 offy.2 (upd_same (H := H3) (a := y) (o := .lst [.int most, .int (1 + a3)]))
    obtain ⟨v, ev, hv⟩ := pick_at (xs := [V.int most, V.int (1 + a3)]) (n := 2) rfl a40 (by omega)
    obtain ⟨cn, rfl, cn0, cn1⟩ : ∃ vi : Int, v = .int vi ∧ 1 ≤ vi ∧ vi ≤ most := by
      simp only [List.mem_cons, List.not_mem_nil, or_false] at hv
      rcases hv with rfl | rfl
      · exact ⟨_, rfl, by omega, by omega⟩
      · exact ⟨_, rfl, by omega, by omega⟩
    refine ⟨y, _, _, _, rfl, rfl, SqL.of ey, ev, ?_⟩
    have k14 := (k12.trans (k3.trans (Kp.same d c sy))).trans k4
    refine ⟨_, rfl, _, rfl, d, c, _, 1 + pm, rfl, hS4, by omega, by omega, by omega, fun l ps t5 H5 nl eL hall ll u0 u1 hS5 k5 => ?_⟩
    have offl := hS4.off nl
    refine ⟨_, rfl, _, rfl, _, rfl, 1 + pm, 1, rfl, rfl, (by show 4 ≤ sizeLine; decide), fun x nx => ?_⟩
    have sx := same_upd (o := .lst [.int 2, .int 5, .int 20, .int 40]) nx
    have offx := hS5.off nx
    refine ⟨_, rfl, d, c, t5, 4, rfl, hS5.same sx, by omega, by decide, by decide, fun a6 H6 a60 a61 hS6 k6 => ?_⟩
    have ex := k6 _ _ offx.1 offx.2 (upd_same (H := H5) (a := x) (o := .lst [.int 2, .int 5, .int 20, .int 40]))
    obtain ⟨v, ev, hv⟩ := pick_at (xs := [V.int 2, V.int 5, V.int 20, V.int 40]) (n := 4) rfl a60 (by omega)
    obtain ⟨wd, rfl, wd0, wd1⟩ : ∃ vi : Int, v = .int vi ∧ 1 ≤ vi ∧ vi ≤ 40 := by
      simp only [List.mem_cons, List.not_mem_nil, or_false] at hv
      rcases hv with rfl | rfl | rfl | rfl <;> exact ⟨_, rfl, by decide, by decide⟩
    refine ⟨x, _, _, _, rfl, rfl, SqL.of ex, ev, d, c, _, cn, 1 + pm - 1, wd, rfl, hS6, by omega, by omega, by omega, by omega, by omega, by omega, by omega, fun r rs H7 t7 nr eR hro hrl v0 v1 hS7 k7 => ?_⟩
    have offr := hS6.off nr
    refine ⟨(by show 2 ≤ sizeLine; decide), fun T nT => ?_⟩
    have sT := same_upd (o := .tup [.ref l, .ref r]) nT
    refine q T l r ps rs t7 _ upd_same (sT _ _ (k7 _ _ offl.1 offl.2 (k6 _ _ offl.1 offl.2 (sx _ _ eL)))) (eR.same sT) hall (by omega) (by omega) (by omega) (by omega) (fun r' hr' => ?_) offl offr (by omega) (by omega) (hS7.same sT) ?_
    · have := hro r' hr'
      exact ⟨this.1, this.2.1, by omega⟩
    · exact (((k14.trans k5).trans ((Kp.same d c sx).trans k6)).trans k7).trans (Kp.same d c sT)
end

/-! ### the same cost -/
theorem CoM.x {Ms : GX.Mq} {Pc Pt Pn Pr Pb Pe Py Ps : Addr} (h : CoM Ms Pc Pt Pn Pr Pb Pe Py Ps) : True := trivial
theorem StAt.noTab {H H' : Hp} {d c : Addr} {t : Int} (S : StAt H d c t) (n : GX.NoTab H H') : StAt H' d c t := by
  obtain ⟨cs, ec, r⟩ := S.cells
  exact ⟨n.keep _ _ S.dict (fun _ z => nomatch z), ⟨cs, n.lst ec, r⟩, S.pos⟩
theorem tq_kp {Ms : GX.Mq} {Xs : List Addr} {H H' : Hp} {d c : Addr} {t : Int} (h : GX.TQ Ms Xs H) (S : StAt H d c t) (k : Kp d c H H') : GX.TQ Ms Xs H' := by
  obtain ⟨cs, ec, r⟩ := S.cells
  exact h.keep (fun b ps hb => k _ _ (ne_of hb S.dict (fun z => nomatch z)) (ne_of hb ec (fun z => nomatch z)) hb)
    (fun b c' P hb => k _ _ (ne_of hb S.dict (fun z => by unfold GX.CodeG at z; cases z)) (ne_of hb ec (fun z => by unfold GX.CodeG at z; cases z)) hb)
    (fun b c' q hb => k _ _ (ne_of hb S.dict (fun z => by unfold LamX.CodeO at z; cases z)) (ne_of hb ec (fun z => by unfold LamX.CodeO at z; cases z)) hb)
/-- what stands while costs are asked: the prices, the runs, the state -/
structure PrS (Ms : GX.Mq) (Xs : List Addr) (d c a b : Addr) (ps : List Int) (rs : List (Int × Int)) (t : Int) (H : Hp) : Prop where
  a : IntsA H a ps
  b : LsA H b rs
  s : StAt H d c t
  q : GX.TQ Ms Xs H
theorem PrS.noTab {Ms : GX.Mq} {Xs : List Addr} {d c a b : Addr} {ps : List Int} {rs : List (Int × Int)} {t : Int} {H H' : Hp} (h : PrS Ms Xs d c a b ps rs t H) (n : GX.NoTab H H') (q : GX.TQ Ms Xs H') : PrS Ms Xs d c a b ps rs t H' := ⟨n.lst h.a, h.b.noTab n, h.s.noTab n, q⟩
theorem PrS.same {Ms : GX.Mq} {Xs : List Addr} {d c a b : Addr} {ps : List Int} {rs : List (Int × Int)} {t : Int} {H H' : Hp} (h : PrS Ms Xs d c a b ps rs t H) (s : Same H H') : PrS Ms Xs d c a b ps rs t H' := h.noTab (NoTab.same s) (h.q.same s)
theorem PrS.kp {Ms : GX.Mq} {Xs : List Addr} {d c a b : Addr} {ps : List Int} {rs : List (Int × Int)} {t t' : Int} {H H' : Hp} (h : PrS Ms Xs d c a b ps rs t H) (k : Kp d c H H') (s : StAt H' d c t') (ha : a ≠ d ∧ a ≠ c) (hb : b ≠ d ∧ b ≠ c) : PrS Ms Xs d c a b ps rs t' H' := by
  refine ⟨k _ _ ha.1 ha.2 h.a, ?_, s, tq_kp h.q h.s k⟩
  obtain ⟨us, e, pr⟩ := h.b
  obtain ⟨cs, ec, _⟩ := h.s.cells
  exact ⟨us, k _ _ hb.1 hb.2 e, pr.1, fun i r er => let ⟨x, h1, h2⟩ := pr.2 i r er; ⟨x, h1, k _ _ (ne_of h2 h.s.dict (fun z => nomatch z)) (ne_of h2 ec (fun z => nomatch z)) h2⟩⟩
def spSameR (K : PySem.W.Frag) (Ms : GX.Mq) (Xs : List Addr) (Pc Pt Pn Pr Pb Pe Py Ps : Addr) : Sp := fun vs H Q _ => ∃ (d c a b : Addr) (ps : List Int) (rs : List (Int × Int)) (t co : Int), vs = [.ref d, .ref a, .ref b, .int co] ∧ PrS Ms Xs d c a b ps rs t H ∧ t < 2 ^ 56 ∧ (a ≠ d ∧ a ≠ c) ∧ (b ≠ d ∧ b ≠ c) ∧ (∀ x ∈ ps, 0 ≤ x) ∧ 1 ≤ ps.length ∧ ps.length ≤ 40 ∧ 1 ≤ rs.length ∧ rs.length ≤ 24 ∧ RunIn ps.length rs ∧ LeastC ps rs co ∧ CoM Ms Pc Pt Pn Pr Pb Pe Py Ps ∧
  ∀ H2 t2, PrS Ms Xs d c a b ps rs t2 H2 → t ≤ t2 → t2 ≤ t + 1000 → Q (.bl true) H2
abbrev sSameR : Stmt := topS 34
theorem scSameR : FnScope ["_law_state", "_law_prices_here", "_law_runs_here", "_law_due", "_law_top", "_law_first", "_law_last", "_law_ahead", "_law_shifted", "_law_wider"] ["_law_state", "_law_prices_here", "_law_runs_here", "_law_due"] (defScope sSameR) := ⟨rfl, rfl, rfl, by decide +kernel, rfl, by decide +kernel, by decide +kernel⟩
/-- runs made anew, one for each -/
theorem lc_runs {K : PySem.W.Frag} {b : Addr} {us : List V} {g : TG} {tt : TT} {te : TE} {vs : List Nat} {σ : L2.St} {H1 : Hp} {D : Addr} {Qd : Hp → Prop} {rs : List (Int × Int)} (f : Int × Int → Int × Int) (nD : H1 D = none) (eb : H1 b = some (.lst us)) (pr : Prs H1 us rs) (hz : rs.length ≤ 900)
    (turn : ∀ (r : Int × Int) (T : Addr) (H : Hp) (Kt : V → Hp → Prop) (Kn : Hp → Prop), r ∈ rs → H T = some (.tup [.int r.1, .int r.2]) → (∀ T2 H4, Same H H4 → H4 T2 = some (.tup [.int (f r).1, .int (f r).2]) → Kt (.ref T2) H4) → g (.ref T) (wipe σ vs) H fun σ2 H2 => wipe σ2 vs = wipe σ vs ∧ tt σ2 H2 fun b H3 => if b = true then te σ2 H3 Kt else Kn H3)
    (fin : ∀ H, Same H1 H → LsA H D (rs.map f) → Qd H) : LcW (Itl K b) g tt te vs σ D Qd H1 := by
  have lus : us.length = rs.length := pr.1
  refine lc_it walk_list (fun j H => Same H1 H ∧ ∃ ws, H D = some (.lst ws) ∧ ws.length = j ∧ ∀ (i : Nat) r, (rs.take j)[i]? = some r → ∃ T, ws[i]? = some (.ref T) ∧ H T = some (.tup [.int (f r).1, .int (f r).2])) ⟨same_upd nD, [], upd_same, rfl, fun i r e => by simp at e⟩ (fun i H _ p => SqL.of (p.1 _ _ eb)) (fun i x H H' hi hP hy => ?_) (fun H hP => ?_)
  · obtain ⟨sm, ws, eD, lw, hw⟩ := hP
    obtain ⟨rfl, hx⟩ := hy
    obtain ⟨r, T, er, rfl, eT⟩ := prs_at pr hx
    refine turn r T H' _ _ (List.mem_of_getElem? er) (sm _ _ eT) fun T2 H4 s4 e4 => ⟨_, s4 _ _ eD, small1000 (by omega), fun b o e => ?_, ws ++ [.ref T2], upd_same, by rw [List.length_append, lw]; rfl, fun j r2 e => ?_⟩
    · rw [upd_ne (ne_of_none e nD)]
      exact s4 _ _ (sm b o e)
    · have nT : ∀ {T : Addr} {xs : List V}, H4 T = some (.tup xs) → upd H4 D (.lst (ws ++ [.ref T2])) T = some (.tup xs) := fun e => by
        rw [upd_ne (ne_of e (s4 _ _ eD) (fun z => nomatch z))]
        exact e
      rw [List.take_add_one, er] at e
      have lt : (rs.take i).length = i := by
        rw [List.length_take]
        omega
      by_cases c : j < i
      · rw [List.getElem?_append_left (by omega)] at e
        obtain ⟨T3, a1, a2⟩ := hw j r2 e
        exact ⟨T3, by rw [List.getElem?_append_left (by omega)]; exact a1, nT (s4 _ _ a2)⟩
      · rw [List.getElem?_append_right (by omega), lt] at e
        have hj : j - i < 1 := (List.getElem?_eq_some_iff.mp e).1
        have e0 : j - i = 0 := by omega
        rw [e0] at e
        cases e
        exact ⟨T2, by rw [List.getElem?_append_right (by omega), lw, e0]; rfl, nT e4⟩
  · obtain ⟨sm, ws, eD, lw, hw⟩ := hP
    rw [lus, List.take_length] at hw
    refine fin H sm ⟨ws, eD, by rw [List.length_map]; omega, fun i r e => ?_⟩
    rw [List.getElem?_map] at e
    obtain ⟨r0, e0, rfl⟩ := Option.map_eq_some_iff.mp e
    exact hw i r0 e0
theorem prs_snoc {H : Hp} {us : List V} {rs : List (Int × Int)} {T : Addr} {r : Int × Int} (h : Prs H us rs) (e : H T = some (.tup [.int r.1, .int r.2])) : Prs H (us ++ [.ref T]) (rs ++ [r]) := by
  have hl : us.length = rs.length := h.1
  refine ⟨by rw [List.length_append, List.length_append, hl]; rfl, fun i x ex => ?_⟩
  by_cases c : i < rs.length
  · rw [List.getElem?_append_left c] at ex
    obtain ⟨y, a1, a2⟩ := h.2 i x ex
    exact ⟨y, by rw [List.getElem?_append_left (by omega)]; exact a1, a2⟩
  · rw [List.getElem?_append_right (by omega)] at ex
    have hj : i - rs.length < 1 := (List.getElem?_eq_some_iff.mp ex).1
    have e0 : i - rs.length = 0 := by omega
    rw [e0] at ex
    cases ex
    exact ⟨T, by rw [List.getElem?_append_right (by omega), hl, e0]; rfl, e⟩
section
variable {K : PySem.W.Frag} {mg : Str → Option Value} {P : Program} {w : World} {base : Heap} {Ms : GX.Mq} {Xs : List Addr} {Pc Pt Pn Pr Pb Pe Py Ps : Addr}
theorem ok_SameR {f : Addr} {fd : FuncData} (F : Fun K "_law_same_right" "_law_same_right" sSameR f fd) (C__law_cost : Cal P w K mg base 10 "_law_cost" ["_law_prices_here", "_law_runs_here"] (spLCost K Ms Xs Pc Pt Pn Pr Pb Pe Py Ps)) (C__law_ordered : Cal P w K mg base 2 "_law_ordered" ["_law_state", "_law_runs_here"] spOrdered) (C__law_take : Cal P w K mg base 1 "_law_take" ["_law_state", "_law_many"] spTake) (C__law_prices : Cal P w K mg base 3 "_law_prices" ["_law_state", "_law_many"] spPrices) (m_len : mg "len" = none) : FnOk P w K mg base CX0 11 f fd ["_law_state", "_law_prices_here", "_law_runs_here", "_law_due"] (spSameR K Ms Xs Pc Pt Pn Pr Pb Pe Py Ps) := by
  refine F.ok scSameR (fun vs H Q E h => ?_) (fun cdv A outer s H vs Q E hr h => ?_)
  · obtain ⟨d, c, a, b, ps, rs, t, co, rfl, _⟩ := h
    rfl
  · obtain ⟨d, c, a, b, ps, rs, t, co, rfl, hS, ht, ha, hb, hps, hp1, hp40, hr1, hr24, hr0, hco, hM, q⟩ := h
    refine ⟨_, pss_cons (ps_set (i := 4) scSameR.nd rfl (.inr rfl) (pe_op op_sub (pe_callB call_len_seq (by rfl) m_len PySem.boot_len (pa_cons (pv 1) pa_nil)) pe_int))
      (pss_cons (ps_if (pt_cmpR op_ne (pe_own C__law_cost hr (by rfl) (pa_cons (pv 1) (pa_cons (pe_own C__law_ordered (hr.mono (show 2 ≤ 10 by decide)) (by rfl) (pa_cons (pv 0) (pa_cons (pv 2) pa_nil))) pa_nil))) (pv 3) (nomark _)) (pss_one (ps_ret pe_bl))
        pss_nil)
      (pss_cons (ps_if (pt_cmpR op_ne (pe_own C__law_cost hr (by rfl) (pa_cons (pe_revL (pv 1)) (pa_cons (pe_lc (own := [("_law_first", 5), ("_law_last", 6)]) (g := (gTup K 2 (gCons (gName 5) (gCons (gName 6) gNil)))) (tt := tYes) (te := (tTup (tCons (tOp (rI0 fun i j => .int (i - j)) (tVar 4) (tVar 6)) (tCons (tOp (rI0 fun i j => .int (i - j)) (tVar 4) (tVar 5)) tNil)))) rfl scSameR.nd (pi_list (pv 2)) (blkOk_by (own := [("_law_first", 5), ("_law_last", 6)]) (N := ["_law_state", "_law_prices_here", "_law_runs_here", "_law_due", "_law_top", "_law_first", "_law_last", "_law_ahead", "_law_shifted", "_law_wider"]) (sc := defScope sSameR) (by decide +kernel)) (fun _ _ _ _ _ => (pg_tup rfl (pgs_cons (pg_name (i := 5) scSameR.nd rfl (.inl rfl)) (pgs_cons (pg_name (i := 6) scSameR.nd rfl (.inl rfl)) pgs_nil)))) (fun _ _ _ _ _ => pts_nil) (fun _ _ _ _ _ => (pe_tup (pa_cons (pe_op op_sub (pv 4) (pv 6)) (pa_cons (pe_op op_sub (pv 4) (pv 5)) pa_nil))))) pa_nil))) (pv 3) (nomark _)) (pss_one (ps_ret pe_bl))
        pss_nil)
      (pss_cons (ps_set (i := 7) scSameR.nd rfl (.inr rfl) (pe_own C__law_take (hr.mono (show 1 ≤ 10 by decide)) (by rfl) (pa_cons (pv 0) (pa_cons (pe_op op_sub pe_int (pe_callB call_len_seq (by rfl) m_len PySem.boot_len (pa_cons (pv 1) pa_nil))) pa_nil))))
      (pss_cons (ps_setLc (i := 8) (own := [("_law_first", 5), ("_law_last", 6)]) (g := (gTup K 2 (gCons (gName 5) (gCons (gName 6) gNil)))) (tt := tYes) (te := (tTup (tCons (tOp (rI0 fun i j => .int (i + j)) (tVar 5) (tVar 7)) (tCons (tOp (rI0 fun i j => .int (i + j)) (tVar 6) (tVar 7)) tNil)))) rfl scSameR.nd rfl rfl (sw_true rfl rfl rfl (by decide +kernel)) (pi_list (pv 2)) (blkOk_by (own := [("_law_first", 5), ("_law_last", 6)]) (N := ["_law_state", "_law_prices_here", "_law_runs_here", "_law_due", "_law_top", "_law_first", "_law_last", "_law_ahead", "_law_shifted", "_law_wider"]) (sc := defScope sSameR) (by decide +kernel)) (fun _ _ _ _ _ => (pg_tup rfl (pgs_cons (pg_name (i := 5) scSameR.nd rfl (.inl rfl)) (pgs_cons (pg_name (i := 6) scSameR.nd rfl (.inl rfl)) pgs_nil)))) (fun _ _ _ _ _ => pts_nil) (fun _ _ _ _ _ => (pe_tup (pa_cons (pe_op op_add (pv 5) (pv 7)) (pa_cons (pe_op op_add (pv 6) (pv 7)) pa_nil)))))
      (pss_cons (ps_if (pt_cmpR op_ne (pe_own C__law_cost hr (by rfl) (pa_cons (pe_op op_cat (pe_own C__law_prices (hr.mono (show 3 ≤ 10 by decide)) (by rfl) (pa_cons (pv 0) (pa_cons (pv 7) pa_nil))) (pv 1)) (pa_cons (pv 8) pa_nil))) (pv 3) (nomark _)) (pss_one (ps_ret pe_bl))
        pss_nil)
      (pss_cons (ps_asg (pe_ix ix_list (pv 2) (pe_own C__law_take (hr.mono (show 1 ≤ 10 by decide)) (by rfl) (pa_cons (pv 0) (pa_cons (pe_callB call_len_seq (by rfl) m_len PySem.boot_len (pa_cons (pv 2) pa_nil)) pa_nil))) (fun _ _ => rfl)) (pg_tup rfl (pgs_cons (pg_name (i := 5) scSameR.nd rfl (.inl rfl)) (pgs_cons (pg_name (i := 6) scSameR.nd rfl (.inl rfl)) pgs_nil))))
      (pss_cons (ps_set (i := 9) scSameR.nd rfl (.inl rfl) (pe_tup (pa_cons (pe_op op_sub (pv 5) (pe_own C__law_take (hr.mono (show 1 ≤ 10 by decide)) (by rfl) (pa_cons (pv 0) (pa_cons (pe_op op_add (pv 5) pe_int) pa_nil)))) (pa_cons (pe_op op_add (pv 6) (pe_own C__law_take (hr.mono (show 1 ≤ 10 by decide)) (by rfl) (pa_cons (pv 0) (pa_cons (pe_op op_sub (pe_callB call_len_seq (by rfl) m_len PySem.boot_len (pa_cons (pv 1) pa_nil)) (pv 6)) pa_nil)))) pa_nil))))
      (pss_one (ps_ret (pe_and (pe_cmpR op_eq (pe_own C__law_cost hr (by rfl) (pa_cons (pv 1) (pa_cons (pe_op op_cat (pv 2) (pe_lst (pa_cons (pe_tup (pa_cons (pv 5) (pa_cons (pv 6) pa_nil))) pa_nil))) pa_nil))) (pv 3) (nomark _)) (pe_one (pe_cmpR op_eq (pe_own C__law_cost hr (by rfl) (pa_cons (pv 1) (pa_cons (pe_op op_cat (pv 2) (pe_lst (pa_cons (pv 9) pa_nil))) pa_nil))) (pv 3) (nomark _))))))))))))), ?_⟩
    have lps : (ps.map V.int).length = ps.length := List.length_map ..
    have hA : H a = some (.lst (ps.map V.int)) := hS.a
    refine ⟨_, rfl, a, _, rfl, .inl (SqL.of hA), _, _, rfl, rfl, ?_⟩
    rw [lps]
    -- in another order
    refine ⟨_, rfl, _, rfl, _, rfl, d, c, b, t, rs, rfl, hS.s, by omega, hS.b, hb.1, hb.2, by omega, fun o H1 rs1 t1 no ho1 hl1 hO v0 v1 hS1 k1 => ?_⟩
    have S1 := hS.kp k1 hS1 ha hb
    refine ⟨a, o, ps, rs1, rfl, S1.a, hO, hps, by omega, by omega, by omega, fun r hr => hr0 r ((ho1 r).mpr hr), S1.q, hM, fun H2 co2 n2 t2 hc2 => ?_⟩
    have e2 : co2 = co := hc2.uniq (hco.runs (hit_mem ho1))
    rw [e2]
    refine ⟨_, rfl, rfl, _, rfl, ite2 (fun z => by rw [decide_eq_true rfl] at z; cases z) (fun _ => ?_)⟩
    have S2 := S1.noTab n2 t2
    -- turned about
    have hA2 : H2 a = some (.lst (ps.map V.int)) := S2.a
    obtain ⟨us2, eB2, pr2⟩ := S2.b
    refine ⟨_, rfl, a, _, rfl, SqL.of hA2, fun w nw => ?_⟩
    have sw := same_upd (o := .lst (ps.map V.int).reverse) nw
    have ew : IntsA (upd H2 w (.lst (ps.map V.int).reverse)) w ps.reverse := by
      show upd _ _ _ _ = _
      rw [upd_same, List.map_reverse]
    generalize upd H2 w (.lst (ps.map V.int).reverse) = H3 at sw ew
    have prS : ∀ {H' : Hp}, Same H2 H' → Prs H' us2 rs := fun n => ⟨pr2.1, fun i r er => let ⟨x, h1, h2⟩ := pr2.2 i r er; ⟨x, h1, n _ _ h2⟩⟩
    refine ⟨_, rfl, b, rfl, ⟨_, SqL.of (sw _ _ eB2)⟩, fun D nD => lc_runs (turnR ps.length) nD (sw _ _ eB2) (prS sw) (by omega) (fun r T Hy Kt Kn hr eT kt => ?_) (fun H4 s4 hD => ?_)⟩
    · exact ⟨T, _, rfl, .inl (.inl eT), rfl, _, _, rfl, _, _, rfl, rfl, rfl, _, rfl, _, rfl, _, _, rfl, rfl, _, rfl, _, rfl, _, _, rfl, rfl, (by show 2 ≤ sizeLine; decide), fun T2 nT2 => kt T2 _ (same_upd nT2) upd_same⟩
    have s24 := sw.trans s4
    have S4 := S2.same s24
    have rev0 : ∀ x ∈ ps.reverse, 0 ≤ x := fun x hx => hps x (List.mem_reverse.mp hx)
    have lrv : ps.reverse.length = ps.length := List.length_reverse
    refine ⟨w, D, ps.reverse, rs.map (turnR ps.length), rfl, s4 _ _ ew, hD, rev0, by omega, by omega, by rw [List.length_map]; omega, ?_, S4.q, hM, fun H5 co5 n5 t5 hc5 => ?_⟩
    · intro r hr
      obtain ⟨r0, h0, rfl⟩ := List.mem_map.mp hr
      have := hr0 r0 h0
      rw [lrv]
      refine ⟨?_, ?_, ?_⟩
      · show 0 ≤ (ps.length : Int) - 1 - r0.2; omega
      · show (ps.length : Int) - 1 - r0.2 ≤ (ps.length : Int) - 1 - r0.1; omega
      · show (ps.length : Int) - 1 - r0.1 < ps.length; omega
    have e5 : co5 = co := hc5.uniq hco.turn
    rw [e5]
    refine ⟨_, rfl, rfl, _, rfl, ite2 (fun z => by rw [decide_eq_true rfl] at z; cases z) (fun _ => ?_)⟩
    have S5 := S4.noTab n5 t5
    -- places ahead
    have hA5 : H5 a = some (.lst (ps.map V.int)) := S5.a
    refine ⟨_, rfl, _, rfl, a, _, rfl, .inl (SqL.of hA5), _, _, rfl, rfl, d, c, t1, _, rfl, S5.s, by omega, by rw [lps]; omega, by rw [lps]; omega, fun ah H6 ah0 ah1 hS6 k6 => ?_⟩
    rw [lps] at ah1
    have S6 := S5.kp k6 hS6 ha hb
    obtain ⟨us6, eB6, pr6⟩ := S6.b
    refine ⟨_, rfl, b, rfl, ⟨_, SqL.of eB6⟩, fun D2 nD2 => lc_runs (moveR ah) nD2 eB6 pr6 (by omega) (fun r T Hy Kt Kn hr eT kt => ?_) (fun H7 s7 hD2 => ?_)⟩
    · exact ⟨T, _, rfl, .inl (.inl eT), rfl, _, _, rfl, _, _, rfl, rfl, rfl, _, rfl, _, rfl, _, _, rfl, rfl, _, rfl, _, rfl, _, _, rfl, rfl, (by show 2 ≤ sizeLine; decide), fun T2 nT2 => kt T2 _ (same_upd nT2) upd_same⟩
    have S7 := S6.same s7
    have offD2 := S6.s.off nD2
    refine ⟨_, rfl, _, rfl, d, c, t1 + 1, ah, rfl, S7.s, by omega, by omega, by omega, fun m qs t8 H8 nm em hq lq w0 w1 hS8 k8 => ?_⟩
    have S8 := S7.kp k8 hS8 ha hb
    have hD8 : LsA H8 D2 (rs.map (moveR ah)) := by
      obtain ⟨ws, e, pr⟩ := hD2
      obtain ⟨cs, ec, _⟩ := S7.s.cells
      exact ⟨ws, k8 _ _ offD2.1 offD2.2 e, pr.1, fun i r er => let ⟨x, h1, h2⟩ := pr.2 i r er; ⟨x, h1, k8 _ _ (ne_of h2 S7.s.dict (fun z => nomatch z)) (ne_of h2 ec (fun z => nomatch z)) h2⟩⟩
    have hA8 : H8 a = some (.lst (ps.map V.int)) := S8.a
    have em' : H8 m = some (.lst (qs.map V.int)) := em
    have lqs : (qs.map V.int).length = qs.length := List.length_map ..
    refine ⟨_, rfl, m, a, _, _, rfl, rfl, em', hA8, Nat.le_trans (show _ ≤ 1000 by rw [lqs, lps]; omega) (by decide), fun w2 nw2 => ?_⟩
    have sw2 := same_upd (o := .lst (qs.map V.int ++ ps.map V.int)) nw2
    have ew2 : IntsA (upd H8 w2 (.lst (qs.map V.int ++ ps.map V.int))) w2 (qs ++ ps) := by
      show upd _ _ _ _ = _
      rw [upd_same, List.map_append]
    generalize upd H8 w2 (.lst (qs.map V.int ++ ps.map V.int)) = H9 at sw2 ew2
    have S9 := S8.same sw2
    have hall : ∀ x ∈ qs ++ ps, 0 ≤ x := fun x hx => (List.mem_append.mp hx).elim (fun z => (hq x z).1) (hps x)
    refine ⟨_, rfl, w2, D2, qs ++ ps, rs.map (moveR ah), rfl, ew2, hD8.same sw2, hall, by rw [List.length_append]; omega, by rw [List.length_append]; omega, by rw [List.length_map]; omega, ?_, S9.q, hM, fun H10 co10 n10 t10 hc10 => ?_⟩
    · intro r hr
      obtain ⟨r0, h0, rfl⟩ := List.mem_map.mp hr
      have := hr0 r0 h0
      rw [List.length_append]
      refine ⟨?_, ?_, ?_⟩
      · show 0 ≤ r0.1 + ah; omega
      · show r0.1 + ah ≤ r0.2 + ah; omega
      · show r0.2 + ah < _; omega
    have e10 : co10 = co := by
      rw [← lq] at hc10
      exact hc10.uniq (hco.ahead hall hr0)
    rw [e10]
    refine ⟨_, rfl, rfl, _, rfl, ite2 (fun z => by rw [decide_eq_true rfl] at z; cases z) (fun _ => ?_)⟩
    have S10 := S9.noTab n10 t10
    -- a run twice, a wider one
    obtain ⟨us10, eB10, pr10⟩ := S10.b
    have lus10 : us10.length = rs.length := pr10.1
    refine ⟨_, rfl, _, rfl, _, rfl, b, _, rfl, .inl (SqL.of eB10), d, c, t8, _, rfl, S10.s, by omega, by rw [lus10]; omega, by rw [lus10]; omega, fun r1 H11 r10 r11 hS11 k11 => ?_⟩
    have S11 := S10.kp k11 hS11 ha hb
    obtain ⟨us11, eB11, pr11⟩ := S11.b
    have e1011 : us11 = us10 := by
      have h1 := k11 _ _ hb.1 hb.2 eB10
      rw [eB11] at h1
      cases h1
      rfl
    subst e1011
    obtain ⟨v, ev, hv⟩ := pick_at (xs := us11) (n := us11.length) rfl r10 r11
    obtain ⟨j, hj, rfl⟩ := List.getElem_of_mem hv
    obtain ⟨r, T, er, eqT, eT⟩ := prs_at pr11 (List.getElem?_eq_getElem hj)
    rw [eqT] at ev
    have hrm := List.mem_of_getElem? er
    obtain ⟨q0, q1, q2⟩ := hr0 r hrm
    refine ⟨b, _, r1, _, rfl, rfl, SqL.of eB11, ev, T, _, rfl, .inl (.inl eT), rfl, _, _, rfl, _, _, rfl, rfl, ?_⟩
    refine ⟨_, rfl, _, rfl, _, rfl, _, _, rfl, rfl, d, c, t8 + 1, r.1 + 1, rfl, S11.s, by omega, by omega, by omega, fun x1 H12 x10 x11 hS12 k12 => ⟨_, _, rfl, rfl, ?_⟩⟩
    have S12 := S11.kp k12 hS12 ha hb
    have hA12 : H12 a = some (.lst (ps.map V.int)) := S12.a
    refine ⟨_, rfl, _, rfl, _, rfl, a, _, rfl, .inl (SqL.of hA12), _, rfl, _, _, rfl, rfl, d, c, t8 + 1 + 1, _, rfl, S12.s, by omega, by rw [lps]; omega, by rw [lps]; omega, fun x2 H13 x20 x21 hS13 k13 => ⟨_, _, rfl, rfl, (by show 2 ≤ sizeLine; decide), fun W nW => ?_⟩⟩
    rw [lps] at x21
    have S13 := S12.kp k13 hS13 ha hb
    have sW := same_upd (o := .tup [.int (r.1 - x1), .int (r.2 + x2)]) nW
    have eW : upd H13 W (.tup [.int (r.1 - x1), .int (r.2 + x2)]) W = some (.tup [.int (r.1 - x1), .int (r.2 + x2)]) := upd_same
    generalize upd H13 W (.tup [.int (r.1 - x1), .int (r.2 + x2)]) = H14 at sW eW
    have S14 := S13.same sW
    obtain ⟨us14, eB14, pr14⟩ := S14.b
    have lus14 : us14.length = rs.length := pr14.1
    refine ⟨_, rfl, _, rfl, _, rfl, _, rfl, (by show 2 ≤ sizeLine; decide), fun T3 nT3 => ⟨(by show 1 ≤ sizeLine; decide), fun L3 nL3 => ?_⟩⟩
    have sT3 := same_upd (o := .tup [.int r.1, .int r.2]) nT3
    have eT3 : upd H14 T3 (.tup [.int r.1, .int r.2]) T3 = some (.tup [.int r.1, .int r.2]) := upd_same
    generalize upd H14 T3 (.tup [.int r.1, .int r.2]) = H15 at sT3 eT3 nL3
    have sL3 := same_upd (o := .lst [.ref T3]) nL3
    have eL3 : upd H15 L3 (.lst [.ref T3]) L3 = some (.lst [.ref T3]) := upd_same
    generalize upd H15 L3 (.lst [.ref T3]) = H16 at sL3 eL3
    have s1416 := sT3.trans sL3
    have prS14 : ∀ {H' : Hp}, Same H14 H' → Prs H' us14 rs := fun n => ⟨pr14.1, fun i r er => let ⟨x, h1, h2⟩ := pr14.2 i r er; ⟨x, h1, n _ _ h2⟩⟩
    refine ⟨b, L3, _, _, rfl, rfl, s1416 _ _ eB14, eL3, Nat.le_trans (show _ ≤ 1000 by rw [lus14]; show _ + 1 ≤ _; omega) (by decide), fun Z nZ => ?_⟩
    have sZ := same_upd (o := .lst (us14 ++ [.ref T3])) nZ
    have eZ : upd H16 Z (.lst (us14 ++ [.ref T3])) Z = some (.lst (us14 ++ [.ref T3])) := upd_same
    generalize upd H16 Z (.lst (us14 ++ [.ref T3])) = H17 at sZ eZ
    have s1417 := s1416.trans sZ
    have S17 := S14.same s1417
    have hZ : LsA H17 Z (rs ++ [r]) := ⟨_, eZ, prs_snoc (prS14 s1417) (sZ _ _ (sL3 _ _ eT3))⟩
    have lrs : ∀ x : Int × Int, (rs ++ [x]).length = rs.length + 1 := fun x => by rw [List.length_append]; rfl
    refine ⟨a, Z, ps, rs ++ [r], rfl, S17.a, hZ, hps, by omega, by omega, by rw [lrs]; omega, fun x hx => (List.mem_append.mp hx).elim (hr0 x) (fun z => by rw [List.mem_singleton.mp z]; exact ⟨q0, q1, q2⟩), S17.q, hM, fun H18 co18 n18 t18 hc18 => ?_⟩
    have e18 : co18 = co := hc18.uniq (hco.runs (hit_wider hrm (Int.le_refl _) (Int.le_refl _)))
    rw [e18]
    refine ⟨_, rfl, rfl, _, rfl, ?_⟩
    rw [decide_eq_true rfl]
    refine iteT ?_
    have S18 := S17.noTab n18 t18
    have eW18 := n18.tup (s1417 _ _ eW)
    obtain ⟨us18, eB18, pr18⟩ := S18.b
    have lus18 : us18.length = rs.length := pr18.1
    refine ⟨_, rfl, _, rfl, _, rfl, (by show 1 ≤ sizeLine; decide), fun L4 nL4 => ?_⟩
    have sL4 := same_upd (o := .lst [.ref W]) nL4
    have eL4 : upd H18 L4 (.lst [.ref W]) L4 = some (.lst [.ref W]) := upd_same
    generalize upd H18 L4 (.lst [.ref W]) = H19 at sL4 eL4
    refine ⟨b, L4, _, _, rfl, rfl, sL4 _ _ eB18, eL4, Nat.le_trans (show _ ≤ 1000 by rw [lus18]; show _ + 1 ≤ _; omega) (by decide), fun Y nY => ?_⟩
    have sY := same_upd (o := .lst (us18 ++ [.ref W])) nY
    have eY : upd H19 Y (.lst (us18 ++ [.ref W])) Y = some (.lst (us18 ++ [.ref W])) := upd_same
    generalize upd H19 Y (.lst (us18 ++ [.ref W])) = H20 at sY eY
    have s1820 := sL4.trans sY
    have S20 := S18.same s1820
    have hY : LsA H20 Y (rs ++ [(r.1 - x1, r.2 + x2)]) := ⟨_, eY, prs_snoc ⟨pr18.1, fun i r er => let ⟨x, h1, h2⟩ := pr18.2 i r er; ⟨x, h1, s1820 _ _ h2⟩⟩ (s1820 _ _ eW18)⟩
    refine ⟨a, Y, ps, rs ++ [(r.1 - x1, r.2 + x2)], rfl, S20.a, hY, hps, by omega, by omega, by rw [lrs]; omega, fun x hx => (List.mem_append.mp hx).elim (hr0 x) (fun z => by rw [List.mem_singleton.mp z]; exact ⟨by show 0 ≤ r.1 - x1; omega, by show r.1 - x1 ≤ r.2 + x2; omega, by show r.2 + x2 < _; omega⟩), S20.q, hM, fun H21 co21 n21 t21 hc21 => ?_⟩
    have e21 : co21 = co := hc21.uniq (hco.runs (hit_wider hrm (by show r.1 - x1 ≤ r.1; omega) (by show r.2 ≤ r.2 + x2; omega)))
    rw [e21]
    refine ⟨_, rfl, rfl, ?_⟩
    rw [decide_eq_true rfl]
    exact q H21 _ (S20.noTab n21 t21) (by omega) (by omega)
end

/-! ### one thing more -/
theorem mulw {i j : Int} (hi : i.natAbs < 2 ^ 250) (hj : j.natAbs < 2 ^ 250) : CMulW i j := wide_mul hi hj (by decide) (by decide) (by decide)
def spMoreR (K : PySem.W.Frag) (Ms : GX.Mq) (Xs : List Addr) (Pc Pt Pn Pr Pb Pe Py Ps : Addr) : Sp := fun vs H Q _ => ∃ (d c a b : Addr) (ps : List Int) (rs : List (Int × Int)) (t co : Int), vs = [.ref d, .ref a, .ref b, .int co] ∧ PrS Ms Xs d c a b ps rs t H ∧ t < 2 ^ 56 ∧ (a ≠ d ∧ a ≠ c) ∧ (b ≠ d ∧ b ≠ c) ∧ (∀ x ∈ ps, 0 ≤ x ∧ x < 10 ^ 31) ∧ 1 ≤ ps.length ∧ ps.length ≤ 40 ∧ 1 ≤ rs.length ∧ rs.length ≤ 24 ∧ RunIn ps.length rs ∧ LeastC ps rs co ∧ CoM Ms Pc Pt Pn Pr Pb Pe Py Ps ∧
  ∀ H2 t2, PrS Ms Xs d c a b ps rs t2 H2 → t ≤ t2 → t2 ≤ t + 1000 → Q (.bl true) H2
abbrev sMoreR : Stmt := topS 35
theorem scMoreR : FnScope ["_law_state", "_law_prices_here", "_law_runs_here", "_law_due", "_law_first", "_law_last", "_law_found", "_law_many", "_law_at", "_law_more", "_law_dearer", "_law_free", "_law_price"] ["_law_state", "_law_prices_here", "_law_runs_here", "_law_due"] (defScope sMoreR) := ⟨rfl, rfl, rfl, by decide +kernel, rfl, by decide +kernel, by decide +kernel⟩
theorem LeastC.bound {ps : List Int} {rs : List (Int × Int)} {co : Int} (h : LeastC ps rs co) (hps : ∀ x ∈ ps, 0 ≤ x ∧ x < 10 ^ 31) (hl : ps.length ≤ 40) : 0 ≤ co ∧ co ≤ 10 ^ 31 * 40 := by
  obtain ⟨S, nd, hS, e⟩ := h.ex
  have lS : S.length ≤ ps.length := by
    have e : ((List.range ps.length).map fun k : Nat => (k : Int)).length = ps.length := by rw [List.length_map, List.length_range]
    rw [← e]
    refine nodup_len nd fun x hx => ?_
    have := hS.2 x hx
    exact List.mem_map.mpr ⟨x.toNat, List.mem_range.mpr (by omega), by omega⟩
  have at_ : ∀ p ∈ S, 0 ≤ prF ps p ∧ prF ps p ≤ 10 ^ 31 := fun p hp => by
    have hr := hS.2 p hp
    obtain ⟨k, rfl⟩ := Int.eq_ofNat_of_zero_le hr.1
    have lk : k < ps.length := by omega
    rw [prF_get lk]
    have := hps _ (List.getElem_mem lk)
    omega
  rw [← e]
  refine ⟨costF_nn fun p hp => (at_ p hp).1, ?_⟩
  have key : ∀ {l : List Int}, (∀ p ∈ l, prF ps p ≤ 10 ^ 31) → costF (prF ps) l ≤ 10 ^ 31 * (l.length : Int) := by
    intro l
    induction l with
    | nil => intro _; show (0 : Int) ≤ _ * 0; omega
    | cons x l ih =>
      intro h
      have h1 := h x (List.mem_cons_self ..)
      have h2 := ih fun p hp => h p (List.mem_cons_of_mem _ hp)
      rw [costF_cons', List.length_cons, Int.natCast_add, Int.mul_add]
      omega
  have := key fun p hp => (at_ p hp).2
  omega
theorem prF_set {ps : List Int} {k : Nat} {w p : Int} (hk : k < ps.length) (h0 : 0 ≤ p) (h1 : p < ps.length) : prF (ps.set k w) p = if p = (k : Int) then w else prF ps p := by
  rw [cF_all h0 (by rw [List.length_set]; exact h1), cF_set hk h0, cF_all h0 h1]
section
variable {K : PySem.W.Frag} {mg : Str → Option Value} {P : Program} {w : World} {base : Heap} {Ms : GX.Mq} {Xs : List Addr} {Pc Pt Pn Pr Pb Pe Py Ps : Addr}
theorem ok_MoreR {f : Addr} {fd : FuncData} (F : Fun K "_law_more_right" "_law_more_right" sMoreR f fd) (C__law_take : Cal P w K mg base 1 "_law_take" ["_law_state", "_law_many"] spTake) (C__law_cost : Cal P w K mg base 10 "_law_cost" ["_law_prices_here", "_law_runs_here"] (spLCost K Ms Xs Pc Pt Pn Pr Pb Pe Py Ps)) (C__law_great : Cal P w K mg base 2 "_law_great" ["_law_state"] spGreat) (m_len : mg "len" = none) (m_min : mg "min" = none) (m_list : mg "list" = none) : FnOk P w K mg base CX0 11 f fd ["_law_state", "_law_prices_here", "_law_runs_here", "_law_due"] (spMoreR K Ms Xs Pc Pt Pn Pr Pb Pe Py Ps) := by
  refine F.ok scMoreR (fun vs H Q E h => ?_) (fun cdv A outer s H vs Q E hr h => ?_)
  · obtain ⟨d, c, a, b, ps, rs, t, co, rfl, _⟩ := h
    rfl
  · obtain ⟨d, c, a, b, ps, rs, t, co, rfl, hS, ht, ha, hb, hps, hp1, hp40, hr1, hr24, hr0, hco, hM, q⟩ := h
    refine ⟨_, pss_cons (ps_set (i := 4) scMoreR.nd rfl (.inl rfl) (pe_own C__law_take (hr.mono (show 1 ≤ 10 by decide)) (by rfl) (pa_cons (pv 0) (pa_cons (pe_callB call_len_seq (by rfl) m_len PySem.boot_len (pa_cons (pv 1) pa_nil)) pa_nil))))
      (pss_cons (ps_set (i := 5) scMoreR.nd rfl (.inl rfl) (pe_op op_add (pv 4) (pe_own C__law_take (hr.mono (show 1 ≤ 10 by decide)) (by rfl) (pa_cons (pv 0) (pa_cons (pe_op op_sub (pe_callB call_len_seq (by rfl) m_len PySem.boot_len (pa_cons (pv 1) pa_nil)) (pv 4)) pa_nil)))))
      (pss_cons (ps_set (i := 6) scMoreR.nd rfl (.inl rfl) (pe_own C__law_cost hr (by rfl) (pa_cons (pv 1) (pa_cons (pe_op op_cat (pv 2) (pe_lst (pa_cons (pe_tup (pa_cons (pv 4) (pa_cons (pv 5) pa_nil))) pa_nil))) pa_nil))))
      (pss_cons (ps_if (PW.pt (pw_or (pt_cmpR op_isN (pv 6) pe_non (nomark _)) (pw_or1 (pt_not (pt_chain op_le op_le (pv 3) (pv 6) (pe_op op_add (pv 3) (pe_callB (cr_min rfl) (by rfl) m_min (by decide +kernel) (pa_cons (pe_slice sl_list (pv 1) (po_some (pv 4)) (po_some (pe_op op_add (pv 5) pe_int))) pa_nil)))))))) (pss_one (ps_ret pe_bl))
        pss_nil)
      (pss_cons (ps_asg (pe_tup (pa_cons (pe_op op_add pe_int (pe_own C__law_great (hr.mono (show 2 ≤ 10 by decide)) (by rfl) (pa_cons (pv 0) pa_nil))) (pa_cons (pe_own C__law_take (hr.mono (show 1 ≤ 10 by decide)) (by rfl) (pa_cons (pv 0) (pa_cons (pe_callB call_len_seq (by rfl) m_len PySem.boot_len (pa_cons (pv 1) pa_nil)) pa_nil))) (pa_cons (pe_own C__law_take (hr.mono (show 1 ≤ 10 by decide)) (by rfl) (pa_cons (pv 0) (pa_cons pe_int pa_nil))) pa_nil)))) (pg_tup rfl (pgs_cons (pg_name (i := 7) scMoreR.nd rfl (.inr rfl)) (pgs_cons (pg_name (i := 8) scMoreR.nd rfl (.inl rfl)) (pgs_cons (pg_name (i := 9) scMoreR.nd rfl (.inl rfl)) pgs_nil)))))
      (pss_cons (ps_if (pt_cmpR op_ne (pe_own C__law_cost hr (by rfl) (pa_cons (pe_lc (own := [("_law_price", 12)]) (g := (gName 12)) (tt := tYes) (te := (tOp (rI CMulW fun i j => .int (i * j)) (tVar 12) (tVar 7))) rfl scMoreR.nd (pi_list (pv 1)) (blkOk_by (own := [("_law_price", 12)]) (N := ["_law_state", "_law_prices_here", "_law_runs_here", "_law_due", "_law_first", "_law_last", "_law_found", "_law_many", "_law_at", "_law_more", "_law_dearer", "_law_free", "_law_price"]) (sc := defScope sMoreR) (by decide +kernel)) (fun _ _ _ _ _ => (pg_name (i := 12) scMoreR.nd rfl (.inl rfl))) (fun _ _ _ _ _ => pts_nil) (fun _ _ _ _ _ => (pe_op op_mulW (pv 12) (pv 7)))) (pa_cons (pv 2) pa_nil))) (pe_op op_mulW (pv 3) (pv 7)) (nomark _)) (pss_one (ps_ret pe_bl))
        pss_nil)
      (pss_cons (ps_par rfl scMoreR.nd (i := 10) (j := 11) rfl rfl (by decide) rfl rfl (pa_cons (pe_callTy call_list_of (by rfl) m_list (by decide +kernel) (pa_cons (pv 1) pa_nil)) (pa_cons (pe_callTy call_list_of (by rfl) m_list (by decide +kernel) (pa_cons (pv 1) pa_nil)) pa_nil)) (by rfl))
      (pss_cons (ps_asg (pe_tup (pa_cons (pe_op op_add (pe_ix ix_list (pv 1) (pv 8) (fun _ _ => rfl)) (pv 9)) (pa_cons pe_int pa_nil))) (pg_tup rfl (pgs_cons (pg_sub (pv 10) (pv 8) set_list) (pgs_cons (pg_sub (pv 11) (pv 8) set_list) pgs_nil))))
      (pss_cons (ps_set (i := 6) scMoreR.nd rfl (.inl rfl) (pe_own C__law_cost hr (by rfl) (pa_cons (pv 10) (pa_cons (pv 2) pa_nil))))
      (pss_cons (ps_if (PW.pt (pw_or (pt_cmpR op_isN (pv 6) pe_non (nomark _)) (pw_or1 (pt_not (pt_chain op_le op_le (pv 3) (pv 6) (pe_op op_add (pv 3) (pv 9))))))) (pss_one (ps_ret pe_bl))
        pss_nil)
      (pss_cons (ps_set (i := 6) scMoreR.nd rfl (.inl rfl) (pe_own C__law_cost hr (by rfl) (pa_cons (pv 11) (pa_cons (pv 2) pa_nil))))
      (pss_one (ps_ret (pe_and (pe_cmpR op_notN (pv 6) pe_non (nomark _)) (pe_one (pe_chain op_le op_le (pe_op op_sub (pv 3) (pe_ix ix_list (pv 1) (pv 8) (fun _ _ => rfl))) (pv 6) (pv 3)))))))))))))))), ?_⟩
    have hps0 : ∀ x ∈ ps, 0 ≤ x := fun x hx => (hps x hx).1
    have hcb := hco.bound hps hp40
    have lps : (ps.map V.int).length = ps.length := List.length_map ..
    have lrs : ∀ x : Int × Int, (rs ++ [x]).length = rs.length + 1 := fun x => by rw [List.length_append]; rfl
    have hA : H a = some (.lst (ps.map V.int)) := hS.a
    refine ⟨_, rfl, _, rfl, a, _, rfl, .inl (SqL.of hA), d, c, t, _, rfl, hS.s, by omega, by rw [lps]; omega, by rw [lps]; omega, fun f H1 f0 f1 hS1 k1 => ?_⟩
    rw [lps] at f1
    have S1 := hS.kp k1 hS1 ha hb
    have hA1 : H1 a = some (.lst (ps.map V.int)) := S1.a
    refine ⟨_, rfl, _, rfl, _, rfl, a, _, rfl, .inl (SqL.of hA1), _, rfl, _, _, rfl, rfl, d, c, t + 1, _, rfl, S1.s, by omega, by rw [lps]; omega, by rw [lps]; omega, fun g H2 g0 g1 hS2 k2 => ⟨_, _, rfl, rfl, ?_⟩⟩
    rw [lps] at g1
    have S2 := S1.kp k2 hS2 ha hb
    obtain ⟨us2, eB2, pr2⟩ := S2.b
    have lus2 : us2.length = rs.length := pr2.1
    -- one run more
    refine ⟨_, rfl, _, rfl, _, rfl, _, rfl, (by show 2 ≤ sizeLine; decide), fun T3 nT3 => ⟨(by show 1 ≤ sizeLine; decide), fun L3 nL3 => ?_⟩⟩
    have sT3 := same_upd (o := .tup [.int f, .int (f + g)]) nT3
    have eT3 : upd H2 T3 (.tup [.int f, .int (f + g)]) T3 = some (.tup [.int f, .int (f + g)]) := upd_same
    generalize upd H2 T3 (.tup [.int f, .int (f + g)]) = H3 at sT3 eT3 nL3
    have sL3 := same_upd (o := .lst [.ref T3]) nL3
    have eL3 : upd H3 L3 (.lst [.ref T3]) L3 = some (.lst [.ref T3]) := upd_same
    generalize upd H3 L3 (.lst [.ref T3]) = H4 at sL3 eL3
    have s24 := sT3.trans sL3
    have prS2 : ∀ {H' : Hp}, Same H2 H' → Prs H' us2 rs := fun n => ⟨pr2.1, fun i r er => let ⟨x, h1, h2⟩ := pr2.2 i r er; ⟨x, h1, n _ _ h2⟩⟩
    refine ⟨b, L3, _, _, rfl, rfl, s24 _ _ eB2, eL3, Nat.le_trans (show _ ≤ 1000 by rw [lus2]; show _ + 1 ≤ _; omega) (by decide), fun Z nZ => ?_⟩
    have sZ := same_upd (o := .lst (us2 ++ [.ref T3])) nZ
    have eZ : upd H4 Z (.lst (us2 ++ [.ref T3])) Z = some (.lst (us2 ++ [.ref T3])) := upd_same
    generalize upd H4 Z (.lst (us2 ++ [.ref T3])) = H5 at sZ eZ
    have s25 := s24.trans sZ
    have S5 := S2.same s25
    have hZ : LsA H5 Z (rs ++ [(f, f + g)]) := ⟨_, eZ, prs_snoc (prS2 s25) (sZ _ _ (sL3 _ _ eT3))⟩
    refine ⟨a, Z, ps, rs ++ [(f, f + g)], rfl, S5.a, hZ, hps0, by omega, by omega, by rw [lrs]; omega, fun x hx => (List.mem_append.mp hx).elim (hr0 x) (fun z => by rw [List.mem_singleton.mp z]; exact ⟨f0, by show f ≤ f + g; omega, by show f + g < _; omega⟩), S5.q, hM, fun H6 fo n6 t6 hc6 => ?_⟩
    have S6 := S5.noTab n6 t6
    have hA6 : H6 a = some (.lst (ps.map V.int)) := S6.a
    refine ⟨_, rfl, rfl, _, rfl, ite2 (fun z => by cases z) (fun _ => ?_)⟩
    -- no less, and more by its cheapest place at the most
    obtain ⟨fn, rfl⟩ := Int.eq_ofNat_of_zero_le f0
    obtain ⟨gn, rfl⟩ := Int.eq_ofNat_of_zero_le g0
    have ecut : cutV (ps.map V.int) (some (fn : Int)) (some ((fn : Int) + (gn : Int) + 1)) = ((ps.drop fn).take (gn + 1)).map V.int := by
      unfold cutV
      rw [show (fn : Int) + (gn : Int) + 1 = ((fn + gn + 1 : Nat) : Int) by omega, HT.sIx_nat, HT.sIx_nat, List.length_map, Nat.min_eq_left (by omega), Nat.min_eq_left (by omega), List.map_take, List.map_drop, show fn + gn + 1 - fn = gn + 1 by omega]
    have lo : co ≤ fo := (hco.more hc6 (r := ((fn : Int), (fn : Int) + gn)) (m := prF ps fn) ⟨fn, ⟨Int.le_refl _, by show (fn : Int) ≤ (fn : Int) + gn; omega⟩, by omega, by omega, rfl⟩).1
    refine ⟨_, rfl, _, rfl, _, _, rfl, rfl, _, rfl, ?_⟩
    rw [decide_eq_true lo]
    refine iteT ⟨_, rfl, _, rfl, _, rfl, _, rfl, _, rfl, _, _, rfl, rfl, _, rfl, a, _, rfl, SqL.of hA6, fun cw ncw => ?_⟩
    rw [ecut]
    have scw := same_upd (o := .lst (((ps.drop fn).take (gn + 1)).map V.int)) ncw
    refine ⟨cw, _, rfl, SqL.of upd_same, by rw [List.length_take, List.length_drop]; omega, fun m hm1 hm2 => ⟨_, _, rfl, rfl, _, _, rfl, rfl, ?_⟩⟩
    have hi : fo ≤ co + m := by
      refine (hco.more hc6 (r := ((fn : Int), (fn : Int) + gn)) ?_).2
      obtain ⟨j, hj, e⟩ := List.getElem_of_mem hm1
      rw [List.length_take, List.length_drop] at hj
      rw [List.getElem_take, List.getElem_drop] at e
      refine ⟨((fn + j : Nat) : Int), ⟨by show (fn : Int) ≤ _; omega, by show _ ≤ (fn : Int) + gn; omega⟩, by omega, by omega, ?_⟩
      rw [prF_get (by omega)]
      exact e
    refine ⟨true, congrArg V.bl (decide_eq_true hi), ite2 (fun z => nomatch z) (fun _ => ?_)⟩
    have S7 := S6.same scw
    generalize upd H6 cw (.lst (((ps.drop fn).take (gn + 1)).map V.int)) = H7 at S7
    -- so many times as great
    refine ⟨_, rfl, d, c, t + 1 + 1, rfl, S7.s, by omega, fun k0 H8 k00 k01 hS8 k8 => ⟨_, _, rfl, rfl, ?_⟩⟩
    have S8 := S7.kp k8 hS8 ha hb
    have hA8 : H8 a = some (.lst (ps.map V.int)) := S8.a
    refine ⟨_, rfl, _, rfl, a, _, rfl, .inl (SqL.of hA8), d, c, t + 1 + 1 + 3, _, rfl, S8.s, by omega, by rw [lps]; omega, by rw [lps]; omega, fun at_ H9 at0 at1 hS9 k9 => ?_⟩
    rw [lps] at at1
    have S9 := S8.kp k9 hS9 ha hb
    refine ⟨_, rfl, d, c, t + 1 + 1 + 3 + 1, 40, rfl, S9.s, by omega, by decide, by decide, fun mo H10 mo0 mo1 hS10 k10 => ⟨(by show 3 ≤ sizeLine; decide), fun TT nTT => ?_⟩⟩
    have S10 := S9.kp k10 hS10 ha hb
    refine ⟨TT, _, rfl, .inl (.inl upd_same), rfl, _, _, rfl, _, _, rfl, _, _, rfl, rfl, ?_⟩
    have S11 := S10.same (same_upd (o := .tup [.int (1 + k0), .int at_, .int mo]) nTT)
    generalize upd H10 TT (.tup [.int (1 + k0), .int at_, .int mo]) = H11 at S11
    have hA11 : H11 a = some (.lst (ps.map V.int)) := S11.a
    refine ⟨_, rfl, a, rfl, ⟨_, SqL.of hA11⟩, fun D nD => lc_list (xs := ps.map V.int) (fun j H' => Same H11 H' ∧ H' D = some (.lst (((ps.take j).map (· * (1 + k0))).map V.int))) ⟨same_upd nD, upd_same⟩ (fun j H' _ hP => SqL.of (hP.1 _ _ hA11)) (fun j x H' hx hP => ?_) (fun H12 hP => ?_)⟩
    · obtain ⟨sm, eD⟩ := hP
      rw [List.getElem?_map] at hx
      obtain ⟨n, en, rfl⟩ := Option.map_eq_some_iff.mp hx
      have hn := hps n (List.mem_of_getElem? en)
      refine ⟨rfl, _, rfl, _, rfl, _, _, rfl, rfl, mulw (by omega) (by omega), _, eD, small1000 (by rw [List.length_map, List.length_map, List.length_take]; omega), fun b' o e => ?_, ?_⟩
      · rw [upd_ne (ne_of_none e nD)]
        exact sm b' o e
      · rw [upd_same, List.take_add_one, en, List.map_append, List.map_append]
        rfl
    obtain ⟨s12, eD⟩ := hP
    rw [lps, List.take_length] at eD
    have S12 := S11.same s12
    have lmk : (ps.map (· * (1 + k0))).length = ps.length := List.length_map ..
    refine ⟨_, rfl, D, b, ps.map (· * (1 + k0)), rs, rfl, eD, S12.b, fun x hx => ?_, by omega, by omega, by omega, by rw [lmk]; exact hr0, S12.q, hM, fun H13 c13 n13 t13 hc13 => ?_⟩
    · obtain ⟨y, hy, rfl⟩ := List.mem_map.mp hx
      exact Int.mul_nonneg (hps0 y hy) (by omega)
    have e13 : c13 = co * (1 + k0) := hc13.uniq (hco.times (by omega))
    rw [e13]
    refine ⟨_, rfl, _, rfl, _, _, rfl, rfl, mulw (by omega) (by omega), rfl, _, rfl, ite2 (fun z => ?_) (fun _ => ?_)⟩
    · have z : (!decide (V.int (co * (1 + k0)) = V.int (co * (1 + k0)))) = true := z
      rw [decide_eq_true rfl] at z
      cases z
    have S13 := S12.noTab n13 t13
    have hA13 : H13 a = some (.lst (ps.map V.int)) := S13.a
    -- one price more, one price nought
    refine ⟨_, rfl, a, _, rfl, .inl (SqL.of hA13), fun w1 nw1 => ?_⟩
    have sw1 := same_upd (o := .lst (ps.map V.int)) nw1
    have ew1 : upd H13 w1 (.lst (ps.map V.int)) w1 = some (.lst (ps.map V.int)) := upd_same
    generalize upd H13 w1 (.lst (ps.map V.int)) = H14 at sw1 ew1
    refine ⟨_, rfl, a, _, rfl, .inl (SqL.of (sw1 _ _ hA13)), fun w2 nw2 => ⟨_, _, rfl, ?_⟩⟩
    have sw2 := same_upd (o := .lst (ps.map V.int)) nw2
    have ew2 : upd H14 w2 (.lst (ps.map V.int)) w2 = some (.lst (ps.map V.int)) := upd_same
    have w12 : w1 ≠ w2 := ne_of_none ew1 nw2
    generalize upd H14 w2 (.lst (ps.map V.int)) = H15 at sw2 ew2
    have s15 := sw1.trans sw2
    have S15 := S13.same s15
    have hA15 : H15 a = some (.lst (ps.map V.int)) := S15.a
    have ew1' := sw2 _ _ ew1
    have nw1H : H13 w1 = none := nw1
    have nw2H : H13 w2 = none := (NoTab.same sw1).free nw2
    obtain ⟨an, rfl⟩ := Int.eq_ofNat_of_zero_le at0
    have lan : an < ps.length := by omega
    have eat : atI (ps.map V.int) (an : Int) = some (.int ps[an]) := IntsA.at (List.getElem?_eq_getElem lan)
    have hpan := hps _ (List.getElem_mem lan)
    refine ⟨_, rfl, _, rfl, a, _, (an : Int), _, rfl, rfl, SqL.of hA15, eat, _, rfl, _, _, rfl, rfl, (by show 2 ≤ sizeLine; decide), fun T nT => ?_⟩
    have sT := same_upd (o := .tup [.int (ps[an] + mo), .int 0]) nT
    have ew1T := sT _ _ ew1'
    have ew2T := sT _ _ ew2
    have hAT := sT _ _ hA15
    have eset1 : upd (upd H15 T (.tup [.int (ps[an] + mo), .int 0])) w1 (.lst ((ps.map V.int).set an (.int (ps[an] + mo)))) w2 = some (.lst (ps.map V.int)) := by rw [upd_ne (Ne.symm w12)]; exact ew2T
    refine ⟨T, _, rfl, .inl (.inl upd_same), rfl, _, _, rfl, _, rfl, _, rfl, w1, _, (an : Int), an, rfl, rfl, ew1T, by rw [lps]; exact ixN_of lan, _, _, rfl, _, rfl, _, rfl, w2, _, (an : Int), an, rfl, rfl, eset1, by rw [lps]; exact ixN_of lan, rfl, ?_⟩
    have n15 : GX.NoTab H13 (upd H15 T (.tup [.int (ps[an] + mo), .int 0])) := NoTab.same (s15.trans sT)
    have n16 := (n15.new (o := .lst ((ps.map V.int).set an (.int (ps[an] + mo)))) nw1H).new (o := .lst ((ps.map V.int).set an (.int 0))) nw2H
    have q16 : GX.TQ Ms Xs (upd (upd (upd H15 T (.tup [.int (ps[an] + mo), .int 0])) w1 (.lst ((ps.map V.int).set an (.int (ps[an] + mo))))) w2 (.lst ((ps.map V.int).set an (.int 0)))) := ((S15.q.same sT).upd ew1T).upd eset1
    have f1 : upd (upd (upd H15 T (.tup [.int (ps[an] + mo), .int 0])) w1 (.lst ((ps.map V.int).set an (.int (ps[an] + mo))))) w2 (.lst ((ps.map V.int).set an (.int 0))) w1 = some (.lst ((ps.set an (ps[an] + mo)).map V.int)) := by
      rw [upd_ne w12, upd_same, List.map_set]
    have f2 : upd (upd (upd H15 T (.tup [.int (ps[an] + mo), .int 0])) w1 (.lst ((ps.map V.int).set an (.int (ps[an] + mo))))) w2 (.lst ((ps.map V.int).set an (.int 0))) w2 = some (.lst ((ps.set an 0).map V.int)) := by
      rw [upd_same, List.map_set]
    generalize upd (upd (upd H15 T (.tup [.int (ps[an] + mo), .int 0])) w1 (.lst ((ps.map V.int).set an (.int (ps[an] + mo))))) w2 (.lst ((ps.map V.int).set an (.int 0))) = H16 at n16 q16 f1 f2
    have S16 := S13.noTab n16 q16
    have ls1 : (ps.set an (ps[an] + mo)).length = ps.length := List.length_set ..
    have ls2 : (ps.set an 0).length = ps.length := List.length_set ..
    have epan : prF ps (an : Int) = ps[an] := prF_get lan
    refine ⟨_, rfl, _, rfl, w1, b, ps.set an (ps[an] + mo), rs, rfl, f1, S16.b, fun x hx => ?_, by omega, by omega, by omega, by rw [ls1]; exact hr0, S16.q, hM, fun H17 c17 n17 t17 hc17 => ?_⟩
    · rcases List.mem_or_eq_of_mem_set hx with z | z
      · exact hps0 x z
      · rw [z]; omega
    have S17 := S16.noTab n17 t17
    have d1 := hco.price (at_ := (an : Int)) (a := 0) (b := mo) ls1 hc17 (fun p p0 p1 pn => by rw [prF_set lan p0 p1, if_neg pn]) (by rw [prF_set lan (by omega) (by omega), if_pos rfl, epan]; omega) (by rw [prF_set lan (by omega) (by omega), if_pos rfl, epan]; omega) (Int.le_refl _) mo0
    have d1a : co ≤ c17 := by omega
    have d1b : c17 ≤ co + mo := d1.2
    refine ⟨_, rfl, rfl, _, rfl, ite2 (fun z => by cases z) (fun _ => ?_)⟩
    refine ⟨_, rfl, _, rfl, _, _, rfl, rfl, _, rfl, ?_⟩
    rw [decide_eq_true d1a]
    refine iteT ⟨_, rfl, _, rfl, _, _, rfl, rfl, _, _, rfl, rfl, true, congrArg V.bl (decide_eq_true d1b), ite2 (fun z => nomatch z) (fun _ => ?_)⟩
    have f2' := n17.lst f2
    refine ⟨_, rfl, _, rfl, w2, b, ps.set an 0, rs, rfl, f2', S17.b, fun x hx => ?_, by omega, by omega, by omega, by rw [ls2]; exact hr0, S17.q, hM, fun H18 c18 n18 t18 hc18 => ?_⟩
    · rcases List.mem_or_eq_of_mem_set hx with z | z
      · exact hps0 x z
      · rw [z]; omega
    have S18 := S17.noTab n18 t18
    have hA18 : H18 a = some (.lst (ps.map V.int)) := S18.a
    have d2 := hco.price (at_ := (an : Int)) (a := ps[an]) (b := 0) ls2 hc18 (fun p p0 p1 pn => by rw [prF_set lan p0 p1, if_neg pn]) (by rw [prF_set lan (by omega) (by omega), if_pos rfl, epan]; omega) (by rw [prF_set lan (by omega) (by omega), if_pos rfl, epan]; omega) hpan.1 (Int.le_refl _)
    have d2a : co - ps[an] ≤ c18 := d2.1
    have d2b : c18 ≤ co := by omega
    refine ⟨_, rfl, rfl, _, rfl, iteT ?_⟩
    refine ⟨_, rfl, _, rfl, _, rfl, a, _, (an : Int), _, rfl, rfl, SqL.of hA18, eat, _, _, rfl, rfl, _, rfl, _, _, rfl, rfl, _, rfl, ?_⟩
    rw [decide_eq_true d2a]
    refine iteT ⟨_, rfl, _, _, rfl, rfl, ?_⟩
    show Q (.bl (decide (c18 ≤ co))) H18
    rw [decide_eq_true d2b]
    exact q H18 _ S18 (by omega) (by omega)
end

/-! ### all of a run is gone -/
def inB2 (p : Int × Int) (n : Int) : Bool := decide (p.1 ≤ n) && decide (n ≤ p.2)
theorem inB2_iff {p : Int × Int} {n : Int} : inB2 p n = true ↔ p.1 ≤ n ∧ n ≤ p.2 := by simp [inB2]
def goneB (gs : List (Int × Int)) (n : Int) : Bool := gs.any fun p => inB2 p n
theorem goneB_iff {gs : List (Int × Int)} {n : Int} : goneB gs n = true ↔ InS gs n := by
  unfold goneB
  rw [List.any_eq_true]
  exact ⟨fun ⟨p, h1, h2⟩ => ⟨p, h1, inB2_iff.mp h2⟩, fun ⟨p, h1, h2⟩ => ⟨p, h1, inB2_iff.mpr h2⟩⟩
def allGB (gs : List (Int × Int)) (r : Int × Int) : Bool := ((List.range (r.2 + 1 - r.1).toNat).map fun k : Nat => goneB gs (r.1 + (k : Int))).all id
theorem allGB_iff {gs : List (Int × Int)} {r : Int × Int} : allGB gs r = true ↔ ∀ n, r.1 ≤ n → n ≤ r.2 → InS gs n := by
  unfold allGB
  rw [List.all_map, List.all_eq_true]
  constructor
  · intro h n h1 h2
    have := h (n - r.1).toNat (List.mem_range.mpr (by omega))
    have e : r.1 + ((n - r.1).toNat : Int) = n := by omega
    have this : goneB gs (r.1 + ((n - r.1).toNat : Int)) = true := this
    rw [e] at this
    exact goneB_iff.mp this
  · intro h k hk
    have := List.mem_range.mp hk
    exact goneB_iff.mpr (h _ (by omega) (by omega))

open LamX
/-! ### the fewest samples -/
theorem u65 {k : Nat} {A : Around} (r : Room k A) : A.units + 65 < cLine := by have := r.un; omega
/-- lists of sets -/
def LR (H : Hp) (us : List V) (ls : List (List (Int × Int))) : Prop := us.length = ls.length ∧ ∀ (i : Nat) l, ls[i]? = some l → ∃ a, us[i]? = some (.ref a) ∧ LsA H a l
theorem LR.same {H H' : Hp} {us : List V} {ls : List (List (Int × Int))} (h : LR H us ls) (s : Same H H') : LR H' us ls := ⟨h.1, fun i r e => let ⟨a, h1, h2⟩ := h.2 i r e; ⟨a, h1, h2.same s⟩⟩
theorem LR.tbl {P : Addr} {q : Str} {H H2 : Hp} {us : List V} {ls : List (List (Int × Int))} (h : LR H us ls) (t : TbL P q H H2) : LR H2 us ls := ⟨h.1, fun i r e => let ⟨a, h1, h2⟩ := h.2 i r e; ⟨a, h1, h2.tbl t⟩⟩
theorem LR.nil {H : Hp} : LR H [] [] := ⟨rfl, fun i p e => by simp at e⟩
theorem LR.snoc {H : Hp} {us : List V} {ls : List (List (Int × Int))} {a : Addr} {l : List (Int × Int)} (h : LR H us ls) (e : LsA H a l) : LR H (us ++ [.ref a]) (ls ++ [l]) := by
  refine ⟨by rw [List.length_append, List.length_append, h.1]; rfl, fun i r er => ?_⟩
  by_cases hi : i < ls.length
  · rw [List.getElem?_append_left hi] at er
    obtain ⟨b, h1, h2⟩ := h.2 i r er
    exact ⟨b, by rw [List.getElem?_append_left (by rw [h.1]; exact hi)]; exact h1, h2⟩
  · rw [List.getElem?_append_right (by omega)] at er
    have h0 : i - ls.length < 1 := (List.getElem?_eq_some_iff.mp er).1
    obtain rfl : i = ls.length := by omega
    rw [Nat.sub_self] at er
    cases er
    exact ⟨a, by rw [← h.1, List.getElem?_append_right (Nat.le_refl _), Nat.sub_self]; rfl, e⟩
def setD' (ps : List (Int × Int)) : PyData := .list (ps.map pairD)
theorem dp_sets {K : PySem.W.Frag} {H : Hp} : ∀ {us : List V} {ls : List (List (Int × Int))}, LR H us ls → DpAll K H us (ls.map setD')
  | [], [], _ => .nil
  | [], _ :: _, h => nomatch h.1
  | _ :: _, [], h => nomatch h.1
  | u :: us, l :: ls, h => by
    obtain ⟨a, e1, e2⟩ := h.2 0 l rfl
    have eu : u = .ref a := Option.some.inj e1
    subst eu
    exact .cons e2.dp (dp_sets ⟨Nat.succ.inj h.1, fun i r e => h.2 (i + 1) r e⟩)
theorem lay_sets : ∀ ls : List (List (Int × Int)), PyData.canLayAll0 (ls.map setD') = true
  | [] => by simp only [List.map_nil, PyData.canLayAll0]
  | l :: r => by
    rw [List.map_cons, PyData.canLayAll0, lay_sets r, setD', PyData.canLay0, lay_prs]
    rfl
theorem depth_sets : ∀ ls : List (List (Int × Int)), PyData.depthAll (ls.map setD') ≤ 2
  | [] => by simp only [List.map_nil, PyData.depthAll]; omega
  | l :: r => by
    rw [List.map_cons, PyData.depthAll, setD', PyData.depth]
    have := depth_sets r
    have := depth_prs l
    omega
theorem shaped_sets (ls : List (List (Int × Int))) : SeqAt.shaped (PyData.list (ls.map setD')) = true := by
  unfold SeqAt.shaped
  rw [PyData.canLay0, lay_sets, PyData.depth, Bool.true_and]
  exact decide_eq_true (by have := depth_sets ls; omega)
theorem eqv_set (l : List (Int × Int)) : PyData.eqv (setD' l) (.list []) = l.isEmpty := eqv_none _ _
/-- the least and the greatest of the i-th set -/
def Lf (ls : List (List (Int × Int))) (i : Nat) : Int × Int := match ls[i]? with
  | some l => (((l[0]?).getD (0, 0)).1, ((l[l.length - 1]?).getD (0, 0)).2)
  | none => (0, 0)
def kI (ls : List (List (Int × Int))) : V → Int
  | .int n => (Lf ls n.toNat).2
  | _ => 0
/-- what samples are rightly told -/
structure SampOk (rs gs : List (Int × Int)) (ns : List Int) : Prop where
  free : ∀ e ∈ ns, ¬ InS gs e ∧ ∃ r ∈ rs, r.1 ≤ e ∧ e ≤ r.2
  inc : ns.Pairwise (· < ·)
  hit : hitsAll rs ns
  low : ∀ row, (∀ e ∈ row, ¬ InS gs e) → hitsAll rs row → ns.length ≤ row.length
theorem told_Lf {rs gs : List (Int × Int)} {ls : List (List (Int × Int))} (hlj : ls.length = rs.length) (htold : ∀ (i : Nat) r l, rs[i]? = some r → ls[i]? = some l → Told (fun n => (r.1 ≤ n ∧ n ≤ r.2) ∧ ¬ InS gs n) l) (hne : ∀ l ∈ ls, l ≠ []) {i : Nat} (hi : i < rs.length) :
    ∃ r l p q, rs[i]? = some r ∧ ls[i]? = some l ∧ l[0]? = some p ∧ l[l.length - 1]? = some q ∧ Lf ls i = (p.1, q.2) ∧ ((r.1 ≤ p.1 ∧ p.1 ≤ r.2) ∧ ¬ InS gs p.1) ∧ ((r.1 ≤ q.2 ∧ q.2 ≤ r.2) ∧ ¬ InS gs q.2) ∧ ∀ n, ((r.1 ≤ n ∧ n ≤ r.2) ∧ ¬ InS gs n) → p.1 ≤ n ∧ n ≤ q.2 := by
  have e1 : rs[i]? = some rs[i] := List.getElem?_eq_getElem hi
  have hi2 : i < ls.length := by omega
  have e2 : ls[i]? = some ls[i] := List.getElem?_eq_getElem hi2
  obtain ⟨p, q, h1, h2, h3, h4, h5⟩ := told_ends (htold i _ _ e1 e2) (hne _ (List.getElem_mem hi2))
  refine ⟨_, _, p, q, e1, e2, h1, h2, ?_, h3, h4, h5⟩
  unfold Lf
  rw [e2]
  simp only [h1, h2]
  rfl
theorem samp_of {rs gs : List (Int × Int)} {ls : List (List (Int × Int))} (hlj : ls.length = rs.length) (htold : ∀ (i : Nat) r l, rs[i]? = some r → ls[i]? = some l → Told (fun n => (r.1 ≤ n ∧ n ≤ r.2) ∧ ¬ InS gs n) l) (hne : ∀ l ∈ ls, l ≠ []) {os : List Nat} {ns : List Int} {ch : List Nat} (ho : ∀ i, i ∈ os ↔ i < rs.length) (g : Gr (Lf ls) os ns ch) : SampOk rs gs ns := by
  have fr : ∀ e ∈ ns, ¬ InS gs e ∧ ∃ r ∈ rs, r.1 ≤ e ∧ e ≤ r.2 := fun e he => by
    rw [g.map] at he
    obtain ⟨i, hi, rfl⟩ := List.mem_map.mp he
    obtain ⟨r, l, p, q, e1, e2, h1, h2, h3, h4, h5, h6⟩ := told_Lf hlj htold hne ((ho i).mp (g.sub i hi))
    show ¬ InS gs (Lf ls i).2 ∧ ∃ r ∈ rs, r.1 ≤ (Lf ls i).2 ∧ (Lf ls i).2 ≤ r.2
    rw [h3]
    exact ⟨h5.2, r, List.mem_of_getElem? e1, h5.1⟩
  refine ⟨fr, g.inc, fun r hr => ?_, fun row hf hh => g.low fun i hi => ?_⟩
  · obtain ⟨i, hi⟩ := List.getElem?_of_mem hr
    have lt : i < rs.length := (List.getElem?_eq_some_iff.mp hi).1
    obtain ⟨r', l, p, q, e1, e2, h1, h2, h3, h4, h5, h6⟩ := told_Lf hlj htold hne lt
    rw [hi] at e1
    cases e1
    obtain ⟨e, he, a1, a2⟩ := g.hit i ((ho i).mpr lt)
    rw [h3] at a1 a2
    refine ⟨e, he, ?_, ?_⟩
    · have : p.1 ≤ e := a1
      have := h4.1.1
      omega
    · have : e ≤ q.2 := a2
      have := h5.1.2
      omega
  · have lt := (ho i).mp hi
    obtain ⟨r', l, p, q, e1, e2, h1, h2, h3, h4, h5, h6⟩ := told_Lf hlj htold hne lt
    obtain ⟨e, he, a1, a2⟩ := hh r' (List.mem_of_getElem? e1)
    obtain ⟨b1, b2⟩ := h6 e ⟨⟨a1, a2⟩, hf e he⟩
    rw [h3]
    exact ⟨e, he, b1, b2⟩
/-- the places in the order of their greatest -/
theorem order_of (ls : List (List (Int × Int))) (n : Nat) : ∃ os : List Nat, (rngV n).mergeSort (PySem.W.dataLe false fun x => PyData.int (kI ls x)) = os.map (fun i : Nat => V.int (i : Int)) ∧ (∀ i, i ∈ os ↔ i < n) ∧ os.length = n ∧ os.Pairwise fun i j => (Lf ls i).2 ≤ (Lf ls j).2 := by
  rw [PySem.W.dataLe_int]
  have hp := List.mergeSort_perm (rngV n) (fun a b => decide (kI ls a ≤ kI ls b))
  have hs := List.pairwise_mergeSort (le := fun a b => decide (kI ls a ≤ kI ls b)) (fun a b c h1 h2 => decide_eq_true (Int.le_trans (of_decide_eq_true h1) (of_decide_eq_true h2))) (fun a b => by
    rcases Int.le_total (kI ls a) (kI ls b) with z | z
    · rw [decide_eq_true z]; rfl
    · rw [decide_eq_true z, Bool.or_true]) (rngV n)
  revert hp hs
  generalize (rngV n).mergeSort (fun a b => decide (kI ls a ≤ kI ls b)) = xs
  intro hp hs
  have bk : ∀ x ∈ xs, ∃ i : Nat, i < n ∧ x = V.int (i : Int) := fun x hx => by
    obtain ⟨i, hi, rfl⟩ := List.mem_map.mp (hp.mem_iff.mp hx)
    exact ⟨i, List.mem_range.mp hi, rfl⟩
  let nt : V → Nat := fun x => match x with | .int n => n.toNat | _ => 0
  have e : xs = (xs.map nt).map (fun i : Nat => V.int (i : Int)) := by
    rw [List.map_map]
    conv => lhs; rw [← List.map_id xs]
    refine List.map_congr_left fun x hx => ?_
    obtain ⟨i, _, rfl⟩ := bk x hx
    show V.int (i : Int) = V.int (((i : Int).toNat : Nat) : Int)
    simp
  refine ⟨xs.map nt, e, fun i => ⟨fun hi => ?_, fun hi => ?_⟩, by rw [List.length_map, hp.length_eq, List.length_map, List.length_range], ?_⟩
  · obtain ⟨x, hx, rfl⟩ := List.mem_map.mp hi
    obtain ⟨i, hi, rfl⟩ := bk x hx
    show (i : Int).toNat < n
    omega
  · exact List.mem_map.mpr ⟨V.int (i : Int), hp.mem_iff.mpr (List.mem_map.mpr ⟨i, List.mem_range.mpr hi, rfl⟩), by show (i : Int).toNat = i; omega⟩
  · rw [List.pairwise_map]
    refine List.Pairwise.imp_of_mem (fun {a b} ha hb h => ?_) hs
    obtain ⟨i, _, rfl⟩ := bk a ha
    obtain ⟨j, _, rfl⟩ := bk b hb
    exact of_decide_eq_true h
abbrev qL : Str := "least_samples" ++ ".<locals>." ++ "<lambda>"
def spLeast (K : PySem.W.Frag) (Pt : Addr) : Sp := fun vs H Q _ => ∃ (a b : Addr) (rs gs : List (Int × Int)), vs = [.ref a, .ref b] ∧ LsA H a rs ∧ LsA H b gs ∧ rs.length ≤ 700 ∧ gs.length ≤ 700 ∧ (∀ r ∈ rs, r.1 ≤ r.2) ∧ Ris 0 gs ∧ TabS H Pt qL ∧
  (∀ (i : Nat) r, rs[i]? = some r → allGB gs r = true → (∀ (j : Nat) r', j < i → rs[j]? = some r' → allGB gs r' = false) → ∀ H2 T, TbL Pt qL H H2 → H2 T = some (.tup [.str "blind", .int (i : Int)]) → Q (.ref T) H2) ∧
  ((∀ r ∈ rs, allGB gs r = false) → ∀ H2 T N A ns, TbL Pt qL H H2 → H2 T = some (.tup [.str "samples", .ref N, .ref A]) → H2 N = some (.lst (ns.map V.int)) → SampOk rs gs ns → Q (.ref T) H2)
abbrev sLeast : Stmt := topS 22
theorem scLeast : FnScope ["runs", "gone", "numbers", "apart", "place", "first", "last", "left", "run"] ["runs", "gone"] (defScope sLeast) := ⟨rfl, rfl, rfl, by decide +kernel, rfl, by decide +kernel, by decide +kernel⟩
section
variable {K : PySem.W.Frag} {mg : Str → Option Value} {P : Program} {w : World} {base : Heap}
theorem ok_Least {f : Addr} {c Pt : Addr} {oc kV doc pm ct : Value} {od an : Option Addr} {osl : Array (Option Value)}
    (lk : K.lookup f = some ⟨oc, od, .func (PySem.W.fnOf "least_samples" "least_samples" (defArgs sLeast) (defBody sLeast) (defScope sLeast) .none kV doc pm an (.ref c) ct), osl⟩) (hcd : PySem.W.codeIn K (.ref c) "least_samples" = true)
    (TB : LamX.TabB base mg c Pt) (C_without : Cal P w K mg base 3 "without" ["one", "other"] (spWithout K)) (m_sorted : mg "sorted" = none) (m_range : mg "range" = none) (m_len : mg "len" = none) :
    FnOk P w K mg base CX0 4 f (PySem.W.fnOf "least_samples" "least_samples" (defArgs sLeast) (defBody sLeast) (defScope sLeast) .none kV doc pm an (.ref c) ct) ["runs", "gone"] (spLeast K Pt) := by
  refine fn_of lk hcd scLeast (fun vs H Q E h => ?_) (fun A outer s H vs Q E hr h => ?_)
  · obtain ⟨a, b, rs, gs, rfl, _⟩ := h
    rfl
  · obtain ⟨a, b, rs, gs, rfl, hA, hB, hra, hgb, hro, hrg, hT, qb, qs⟩ := h
    refine ⟨_, PSs.nox (pss_cons (ps_set (i := 7) scLeast.nd rfl (.inr rfl) (pe_lc (own := [("run", 8)]) (g := (gName 8)) (tt := tYes) (te := (tCall (spWithout K) [] E0 (tCons (tLst (tCons (tVar 8) tNil)) (tCons (tVar 1) tNil)))) rfl scLeast.nd (pi_list (pv 0)) (blkOk_by (own := [("run", 8)]) (N := ["runs", "gone", "numbers", "apart", "place", "first", "last", "left", "run"]) (sc := defScope sLeast) (by decide +kernel)) (fun _ _ _ _ _ => (pg_name (i := 8) scLeast.nd rfl (.inl rfl))) (fun _ _ _ _ _ => pts_nil) (fun _ _ _ _ _ => (pe_own C_without hr (by rfl) (pa_cons (pe_lst (pa_cons (pv 8) pa_nil)) (pa_cons (pv 1) pa_nil))))))
      (pss_cons (ps_if (pt_cmpR (op_inD (u65 hr)) (pe_lst pa_nil) (pv 7) (by rfl)) (pss_one (ps_ret (pe_tup (pa_cons pe_str (pa_cons (pe_bm PySem.F.plainAttrs_list PySem.F.slot_list_index PySem.F.type_list_index (mt_indexD (u65 hr)) (pv 7) (pa_cons (pe_lst pa_nil) pa_nil)) pa_nil)))))
        pss_nil)
      (pss_cons (ps_set (i := 2) scLeast.nd rfl (.inl rfl) (pe_lst pa_nil))
      (pss_cons (ps_set (i := 3) scLeast.nd rfl (.inl rfl) (pe_lst pa_nil))
      (pss_cons (ps_for PassesOwn.never rfl (pi_list (pe_sortedLR TB rfl (by rfl) m_sorted hr (pa_cons (pe_callTy cr_range1 (by rfl) m_range (by decide +kernel) (pa_cons (pe_callB call_len_seq (by rfl) m_len PySem.boot_len (pa_cons (pv 7) pa_nil)) pa_nil)) pa_nil) (by rfl) (lamP_by (sc := defScope sLeast) (by decide +kernel)) (fun _ _ _ _ => rfl) (key_last1 (i := 7) (lamP_by (sc := defScope sLeast) (by decide +kernel)) rfl rfl rfl (by decide) (by decide) (by decide)))) (pg_name (i := 4) scLeast.nd rfl (.inl rfl))
        (pss_cons (ps_par rfl scLeast.nd (i := 5) (j := 6) rfl rfl (by decide) rfl rfl (pa_cons (pe_ix ix_tup (pe_ix ix_list (pe_ix ix_list (pv 7) (pv 4) (fun _ _ => rfl)) pe_int (fun _ _ => rfl)) pe_int (fun _ _ => rfl)) (pa_cons (pe_ix ix_tup (pe_ix ix_list (pe_ix ix_list (pv 7) (pv 4) (fun _ _ => rfl)) (pe_un un_neg pe_int) (fun _ _ => rfl)) pe_int (fun _ _ => rfl)) pa_nil)) (by rfl))
        (pss_one (ps_if (PW.pt (pw_or (pt_not (pt_truth (pv 2) (by intro _; rfl))) (pw_or1 (pt_cmpR op_lt (pe_ix ix_list (pv 2) (pe_un un_neg pe_int) (fun _ _ => rfl)) (pv 5) (nomark _))))) (pss_cons (ps_expr (pe_bm PySem.F.plainAttrs_list PySem.F.slot_list_append PySem.F.type_list_append mt_append (pv 2) (pa_cons (pv 6) pa_nil)))
          (pss_one (ps_expr (pe_bm PySem.F.plainAttrs_list PySem.F.slot_list_append PySem.F.type_list_append mt_append (pv 3) (pa_cons (pv 4) pa_nil)))))
          pss_nil))))
      (pss_one (ps_ret (pe_tup (pa_cons pe_str (pa_cons (pv 2) (pa_cons (pe_callB cr_sortedI (by rfl) m_sorted (by decide +kernel) (pa_cons (pv 3) pa_nil)) pa_nil))))))))))), ?_⟩
    obtain ⟨ua, ea, pa⟩ := id hA
    have hlen : ua.length = rs.length := pa.1
    refine ⟨_, rfl, a, rfl, ⟨_, SqL.of ea⟩, fun L nL => lc_list (xs := ua) (fun j H' => Same H H' ∧ ∃ us ls, H' L = some (.lst us) ∧ LR H' us ls ∧ ls.length = j ∧ (∀ v ∈ us, v ≠ .ref L) ∧ ∀ (i : Nat) r l, rs[i]? = some r → ls[i]? = some l → Told (fun n => (r.1 ≤ n ∧ n ≤ r.2) ∧ ¬ InS gs n) l) ⟨same_upd nL, [], [], upd_same, LR.nil, rfl, (fun _ h => nomatch h), fun i r l _ e => by simp at e⟩ (fun j H' _ hP => SqL.of (hP.1 _ _ ea)) (fun j x H' hx hP => ?_) (fun H1 hP => ?_)⟩
    · obtain ⟨sm, us, ls, eL, hLR, hlj, hng, htold⟩ := hP
      obtain ⟨r, T, er, rfl, eT⟩ := prs_at pa hx
      have hj : j < rs.length := (List.getElem?_eq_some_iff.mp er).1
      have hrr := hro r (List.mem_of_getElem? er)
      refine ⟨rfl, _, rfl, (by show 1 ≤ sizeLine; decide), fun l1 nl1 => ?_⟩
      have sl1 := same_upd (o := .lst [.ref T]) nl1
      have p1 : LsA (upd H' l1 (.lst [.ref T])) l1 [r] := ⟨_, upd_same, Prs.nil.snoc (sl1 _ _ (sm _ _ eT))⟩
      refine ⟨_, rfl, l1, b, [r], gs, rfl, p1.pr, (hB.same (sm.trans sl1)).pr, ⟨r.1, Int.le_refl _, hrr, True.intro⟩, ⟨0, hrg⟩, by show 1 + gs.length ≤ 800; omega, fun l2 l H4 nl2 hl2 htl _ s4 => ?_⟩
      have eL4 := s4 _ _ (sl1 _ _ eL)
      have n2L : l2 ≠ L := fun z => by rw [z, sl1 _ _ eL] at nl2; cases nl2
      have lus : us.length = j := by rw [hLR.1, hlj]
      refine ⟨_, eL4, small1000 (by omega), fun b' o e => ?_, us ++ [.ref l2], ls ++ [l], upd_same, ?_, by rw [List.length_append, hlj]; rfl, fun v hv => ?_, fun i r' l' er' el' => ?_⟩
      · rw [upd_ne (ne_of_none e nL)]
        exact s4 _ _ (sl1 _ _ (sm b' o e))
      · have h1 := (hLR.same (sl1.trans s4)).snoc hl2
        refine ⟨h1.1, fun i r' e => ?_⟩
        obtain ⟨x, f1, us', f2, f3⟩ := h1.2 i r' e
        have nx : x ≠ L := fun z => by
          have hm := List.mem_of_getElem? f1
          rcases List.mem_append.mp hm with y | y
          · exact hng _ y (by rw [z])
          · exact n2L ((V.ref.inj (List.mem_singleton.mp y)).symm.trans z)
        exact ⟨x, f1, us', by rw [upd_ne nx]; exact f2, f3.upd_lst eL4⟩
      · rcases List.mem_append.mp hv with z | z
        · exact hng v z
        · rw [List.mem_singleton.mp z]
          exact fun w => n2L (V.ref.inj w)
      · by_cases hi : i < ls.length
        · rw [List.getElem?_append_left hi] at el'
          exact htold i r' l' er' el'
        · rw [List.getElem?_append_right (by omega)] at el'
          have h0 : i - ls.length < 1 := (List.getElem?_eq_some_iff.mp el').1
          obtain rfl : i = ls.length := by omega
          rw [Nat.sub_self] at el'
          cases el'
          rw [hlj, er] at er'
          cases er'
          refine htl.cong fun n => ?_
          rw [inS_cons]
          exact ⟨fun ⟨z, y⟩ => ⟨z.elim id (fun w => absurd w inS_nil), y⟩, fun ⟨z, y⟩ => ⟨.inl z, y⟩⟩
    · obtain ⟨s1, us, ls, eL, hLR, hlj, hng, htold⟩ := hP
      rw [hlen] at hlj
      have lus : us.length = rs.length := by rw [hLR.1, hlj]
      -- which are empty
      have emp : ∀ (i : Nat) r l, rs[i]? = some r → ls[i]? = some l → (l.isEmpty = true ↔ allGB gs r = true) := fun i r l er el => by
        rw [List.isEmpty_iff, told_nil (htold i r l er el), allGB_iff]
        refine ⟨fun h n h1 h2 => ?_, fun h n ⟨⟨h1, h2⟩, h3⟩ => h3 (h n h1 h2)⟩
        exact Classical.byContradiction fun z => h n ⟨⟨h1, h2⟩, z⟩
      refine ⟨Nat.zero_le _, fun E0' nE => ?_⟩
      have sE := same_upd (o := .lst []) nE
      have dpL : ∀ {H' : Hp}, Same H1 H' → Dp K H' (.ref L) (.list (ls.map setD')) := fun s' => .lst (SqL.of (s' _ _ eL)) (dp_sets (hLR.same s'))
      refine ⟨_, rfl, .list [], ls.map setD', .lst (SqL.of upd_same) .nil, dpL sE, by rfl, shaped_sets ls, ?_⟩
      have ea' : ((ls.map setD').any fun z => PyData.eqv z (.list [])) = ls.any List.isEmpty := by
        rw [List.any_map]
        congr 1
        funext l
        exact eqv_set l
      rw [ea']
      refine ⟨_, rfl, ite2 (fun c1 => ?_) (fun c1 => ?_)⟩
      · -- one is gone whole
        have ex : ∃ l ∈ ls, List.isEmpty l = true := by
          obtain ⟨l, h1, h2⟩ := List.any_eq_true.mp c1
          exact ⟨l, h1, h2⟩
        have jl := List.findIdx_lt_length_of_exists ex
        have je := List.findIdx_getElem (p := List.isEmpty) (xs := ls) (w := jl)
        have jn : ∀ (m : Nat) l, m < ls.findIdx List.isEmpty → ls[m]? = some l → l.isEmpty = false := fun m l hm hl => by
          have := List.not_of_lt_findIdx hm
          obtain ⟨lt, e⟩ := List.getElem?_eq_some_iff.mp hl
          rw [← e]
          simpa using this
        revert jl je jn
        generalize ls.findIdx List.isEmpty = j
        intro jl je jn
        refine ⟨_, rfl, .inl ⟨rfl, _, SqL.of (sE _ _ eL)⟩, Nat.zero_le _, fun E1 nE1 => ?_⟩
        have sE1 := same_upd (o := .lst []) nE1
        refine ⟨L, .ref E1, .list [], ls.map setD', j, setD' ls[j], rfl, rfl, dpL (sE.trans sE1), .lst (SqL.of upd_same) .nil, shaped_sets ls, by rfl, by rw [List.getElem?_map, List.getElem?_eq_getElem jl]; rfl, by rw [eqv_set]; exact je, fun m z hm hz => ?_, (by show 2 ≤ sizeLine; decide), fun T nT => ?_⟩
        · rw [List.getElem?_map] at hz
          cases hl : ls[m]? with
          | none => rw [hl] at hz; cases hz
          | some l =>
            rw [hl] at hz
            cases hz
            rw [eqv_set]
            exact jn m l hm hl
        · have jr : j < rs.length := by omega
          have sT := same_upd (o := .tup [.str "blind", .int (j : Int)]) nT
          refine qb j rs[j] (List.getElem?_eq_getElem jr) ((emp j _ _ (List.getElem?_eq_getElem jr) (List.getElem?_eq_getElem jl)).mp je) (fun m r' hm hr' => ?_) _ T (TbL.of hT (((s1.trans sE).trans sE1).trans sT)) upd_same
          have ml : m < ls.length := by omega
          have := jn m _ hm (List.getElem?_eq_getElem ml)
          cases hg : allGB gs r' with
          | false => rfl
          | true =>
            rw [(emp m r' _ hr' (List.getElem?_eq_getElem ml)).mpr hg] at this
            cases this
      · -- none is
        have hne : ∀ l ∈ ls, l ≠ [] := fun l hl z => c1 (List.any_eq_true.mpr ⟨l, hl, by rw [z]; rfl⟩)
        have none : ∀ r ∈ rs, allGB gs r = false := fun r hr => by
          obtain ⟨m, hm⟩ := List.getElem?_of_mem hr
          have ml : m < ls.length := by rw [hlj]; exact (List.getElem?_eq_some_iff.mp hm).1
          cases hg : allGB gs r with
          | false => rfl
          | true =>
            have := (emp m r _ hm (List.getElem?_eq_getElem ml)).mpr hg
            rw [List.isEmpty_iff] at this
            exact absurd this (hne _ (List.getElem_mem ml))
        refine ⟨Nat.zero_le _, fun N nN => ⟨Nat.zero_le _, fun A2 nA2 => ?_⟩⟩
        have sN := same_upd (o := .lst []) nN
        have sA := same_upd (o := .lst []) nA2
        have s0 := ((s1.trans sE).trans sN).trans sA
        have eLa := ((sE.trans sN).trans sA) _ _ eL
        have hLRa := hLR.same ((sE.trans sN).trans sA)
        have nNA : N ≠ A2 := fun z => by
          have := upd_same (H := upd H1 E0' (.lst [])) (a := N) (o := .lst [])
          rw [← z, this] at nA2
          cases nA2
        refine ⟨_, rfl, L, us, rfl, .inl (SqL.of eLa), (rs.length : Int), by rw [lus], fun R nR => ?_⟩
        have sR := same_upd (o := .rng 0 (rs.length : Int)) nR
        refine ⟨hT.ext (s0.trans sR), R, rs.length, fun x => PyData.int (kI ls x), rfl, upd_same, by omega, ?_, ?_, ?_, ?_, ?_⟩
        · intro d1 h1 d2 h2
          obtain ⟨x1, _, rfl⟩ := List.mem_map.mp h1
          obtain ⟨x2, _, rfl⟩ := List.mem_map.mp h2
          rfl
        · refine .inr fun d1 h1 => ?_
          obtain ⟨x1, _, rfl⟩ := List.mem_map.mp h1
          exact ⟨(fun z => nomatch z), fun _ z => nomatch z⟩
        · intro x _
          show PyData.depth (PyData.int _) ≤ 8
          rw [PyData.depth]
          omega
        · intro x hx H2 tb
          obtain ⟨i, hi, rfl⟩ := List.mem_map.mp hx
          have hi := List.mem_range.mp hi
          obtain ⟨r, l, p, q, e1, e2, h1, h2, h3, h4, h5, h6⟩ := told_Lf hlj htold hne hi
          have hLR2 := (hLRa.same sR).tbl tb
          obtain ⟨m, f1, ms, em, pm'⟩ := hLR2.2 i l e2
          obtain ⟨T, g1, g2⟩ := pm'.2 (l.length - 1) q h2
          refine ⟨L, m, T, us, ms, _, (i : Int), q.2, rfl, rfl, SqL.of (tb.lst (sR _ _ eLa)), atI_nat f1, SqL.of em, ?_, .inl (.inl g2), atI_nat (j := 1) rfl, ?_⟩
          · exact atI_m1 (by rw [pm'.1]; exact g1)
          · show PyData.int (Lf ls (i : Int).toNat).2 = _
            rw [show ((i : Int).toNat) = i by omega, h3]
        · intro H2 p tb np
          obtain ⟨os, eo, ho, hol, hos⟩ := order_of ls rs.length
          rw [eo]
          have sp := same_upd (o := .lst (os.map fun i : Nat => V.int (i : Int))) np
          have tb2 := tb.trans (TbL.of tb.1 sp)
          have eLp := tb2.lst (sR _ _ eLa)
          have hLRp := (hLRa.same sR).tbl tb2
          have eNp := tb2.lst (sR _ _ (sA _ _ (upd_same (H := upd H1 E0' (.lst [])) (a := N) (o := .lst []))))
          have eAp := tb2.lst (sR _ _ (upd_same (H := upd (upd H1 E0' (.lst [])) N (.lst [])) (a := A2) (o := .lst [])))
          have epp : upd H2 p (.lst (os.map fun i : Nat => V.int (i : Int))) p = some (.lst (os.map fun i : Nat => V.int (i : Int))) := upd_same
          have hT2 := tb2.1
          have npN : p ≠ N := fun z => by rw [z, tb.lst (sR _ _ (sA _ _ (upd_same (H := upd H1 E0' (.lst [])) (a := N) (o := .lst []))))] at np; cases np
          have npA : p ≠ A2 := fun z => by rw [z, tb.lst (sR _ _ (upd_same (H := upd (upd H1 E0' (.lst [])) N (.lst [])) (a := A2) (o := .lst [])))] at np; cases np
          have nLN : L ≠ N := fun z => by rw [z] at eL; rw [sE _ _ eL] at nN; cases nN
          have nLA : L ≠ A2 := fun z => by rw [z] at eL; rw [sN _ _ (sE _ _ eL)] at nA2; cases nA2
          have tb0 : TbL Pt qL H (upd H2 p (.lst (os.map fun i : Nat => V.int (i : Int)))) := (TbL.of hT (s0.trans sR)).trans tb2
          have oldN : ∀ b' o, H b' = some o → b' ≠ N ∧ b' ≠ A2 := fun b' o e => ⟨ne_of_none (sE _ _ (s1 _ _ e)) nN, ne_of_none (sN _ _ (sE _ _ (s1 _ _ e))) nA2⟩
          -- the sets' lists stay
          have offL : ∀ (i : Nat) l m, ls[i]? = some l → us[i]? = some (.ref m) → m ≠ N ∧ m ≠ A2 := fun i l m el em => by
            obtain ⟨m', f1, ms, f2, _⟩ := hLR.2 i l el
            rw [em] at f1
            cases f1
            exact ⟨ne_of_none (sE _ _ f2) nN, ne_of_none (sN _ _ (sE _ _ f2)) nA2⟩
          generalize upd H2 p (.lst (os.map fun i : Nat => V.int (i : Int))) = H3 at *
          refine ⟨p, rfl, ⟨_, SqL.of epp⟩, for_list (xs := os.map fun i : Nat => V.int (i : Int)) (fun i σ Hx => ∃ (ns : List Int) (ch : List Nat) (y4 y5 y6 y8 : Option V), σ = [some (.ref a), some (.ref b), some (.ref N), some (.ref A2), y4, y5, y6, some (.ref L), y8] ∧ Gr (Lf ls) (os.take i) ns ch ∧ ch.length ≤ i ∧ Hx N = some (.lst (ns.map V.int)) ∧ Hx A2 = some (.lst ((ch.map fun i : Nat => (i : Int)).map V.int)) ∧ TabS Hx Pt qL ∧ ∀ b' o, b' ≠ N → b' ≠ A2 → H3 b' = some o → Hx b' = some o) ⟨[], [], _, _, _, _, rfl, Gr.nil _, Nat.le_refl _, eNp, eAp, hT2, fun _ _ _ _ e => e⟩ (fun i σ Hx _ hP => ?_) (fun i x σ Hx hx hP => ?_) (fun σ Hx hP => ?_)⟩
          · obtain ⟨ns, ch, y4, y5, y6, y8, rfl, hG, hcl, eN, eA, hTx, kp⟩ := hP
            exact SqL.of (kp _ _ npN npA epp)
          · obtain ⟨ns, ch, y4, y5, y6, y8, rfl, hG, hcl, eN, eA, hTx, kp⟩ := hP
            have hi : i < os.length := by
              have := (List.getElem?_eq_some_iff.mp hx).1
              rwa [List.length_map] at this
            have eoi : os[i]? = some os[i] := List.getElem?_eq_getElem hi
            rw [List.getElem?_map, eoi] at hx
            cases hx
            have lt : os[i] < rs.length := (ho _).mp (List.getElem_mem hi)
            obtain ⟨r, l, p0, q0, e1, e2, h1, h2, h3, h4, h5, h6⟩ := told_Lf hlj htold hne lt
            obtain ⟨m, f1, ms, em, pm'⟩ := hLRp.2 os[i] l e2
            obtain ⟨T0, g1, g2⟩ := pm'.2 0 p0 h1
            obtain ⟨T1, g3, g4⟩ := pm'.2 (l.length - 1) q0 h2
            obtain ⟨o1, o2⟩ := offL os[i] l m e2 f1
            have eLx := kp _ _ nLN nLA eLp
            have emx := kp _ _ o1 o2 em
            have tN : ∀ {T : Addr} {z : List V}, H3 T = some (.tup z) → T ≠ N ∧ T ≠ A2 := fun e => ⟨ne_of e eNp (fun z => nomatch z), ne_of e eAp (fun z => nomatch z)⟩
            have g2x := kp _ _ (tN g2).1 (tN g2).2 g2
            have g4x := kp _ _ (tN g4).1 (tN g4).2 g4
            refine ⟨_, rfl, _, rfl, L, _, (os[i] : Int), _, rfl, rfl, SqL.of eLx, atI_nat f1, m, _, 0, _, rfl, rfl, SqL.of emx, atI_nat (j := 0) g1, T0, _, 0, _, rfl, rfl, .inl (.inl g2x), atI_nat (j := 0) rfl, ?_⟩
            refine ⟨_, rfl, _, rfl, L, _, (os[i] : Int), _, rfl, rfl, SqL.of eLx, atI_nat f1, 1, rfl, m, _, -1, _, rfl, rfl, SqL.of emx, atI_m1 (by rw [pm'.1]; exact g3), T1, _, 1, _, rfl, rfl, .inl (.inl g4x), atI_nat (j := 1) rfl, _, _, rfl, ?_⟩
            have et : os.take (i + 1) = os.take i ++ [os[i]] := by rw [List.take_add_one, eoi]; rfl
            have L1 : (Lf ls os[i]).1 = p0.1 := by rw [h3]
            have L2' : (Lf ls os[i]).2 = q0.2 := by rw [h3]
            have le12 : (Lf ls os[i]).1 ≤ (Lf ls os[i]).2 := by
              rw [L1, L2']
              exact (h6 p0.1 h4).2
            have prev : ∀ j ∈ os.take i, (Lf ls j).2 ≤ (Lf ls os[i]).2 := fun j hj => by
              have hp := hos
              rw [← List.take_append_drop i os, List.pairwise_append] at hp
              exact hp.2.2 j hj _ (by rw [List.drop_eq_getElem_cons hi]; exact List.mem_cons_self ..)
            have app : (∀ e ∈ ns, e < (Lf ls os[i]).1) → ∃ (ns' : List Int) (ch' : List Nat) (y4 y5 y6 y8' : Option V), [some (V.ref a), some (.ref b), some (.ref N), some (.ref A2), some (.int (os[i] : Int)), some (.int p0.1), some (.int q0.2), some (.ref L), y8] = [some (.ref a), some (.ref b), some (.ref N), some (.ref A2), y4, y5, y6, some (.ref L), y8'] ∧ Gr (Lf ls) (os.take (i + 1)) ns' ch' ∧ ch'.length ≤ i + 1 ∧ upd (upd Hx N (.lst (ns.map V.int ++ [.int q0.2]))) A2 (.lst ((ch.map fun i : Nat => (i : Int)).map V.int ++ [.int (os[i] : Int)])) N = some (.lst (ns'.map V.int)) ∧ upd (upd Hx N (.lst (ns.map V.int ++ [.int q0.2]))) A2 (.lst ((ch.map fun i : Nat => (i : Int)).map V.int ++ [.int (os[i] : Int)])) A2 = some (.lst ((ch'.map fun i : Nat => (i : Int)).map V.int)) ∧ TabS (upd (upd Hx N (.lst (ns.map V.int ++ [.int q0.2]))) A2 (.lst ((ch.map fun i : Nat => (i : Int)).map V.int ++ [.int (os[i] : Int)]))) Pt qL ∧ ∀ b' o, b' ≠ N → b' ≠ A2 → H3 b' = some o → upd (upd Hx N (.lst (ns.map V.int ++ [.int q0.2]))) A2 (.lst ((ch.map fun i : Nat => (i : Int)).map V.int ++ [.int (os[i] : Int)])) b' = some o := fun lt' => by
              refine ⟨ns ++ [q0.2], ch ++ [os[i]], _, _, _, _, rfl, ?_, by rw [List.length_append]; show ch.length + 1 ≤ _; omega, ?_, ?_, ?_, fun b' o b1 b2 e => ?_⟩
              · rw [et, ← L2']
                exact hG.take le12 lt'
              · rw [upd_ne nNA, upd_same, List.map_append]
                rfl
              · rw [upd_same, List.map_append, List.map_append]
                rfl
              · exact TabS.upd (xs := (ch.map fun i : Nat => (i : Int)).map V.int) (TabS.upd hTx eN) (by rw [upd_ne nNA.symm]; exact eA)
              · rw [upd_ne b2, upd_ne b1]
                exact kp b' o b1 b2 e
            have skip : ∀ e ∈ ns, (Lf ls os[i]).1 ≤ e → ∃ (ns' : List Int) (ch' : List Nat) (y4 y5 y6 y8' : Option V), [some (V.ref a), some (.ref b), some (.ref N), some (.ref A2), some (.int (os[i] : Int)), some (.int p0.1), some (.int q0.2), some (.ref L), y8] = [some (.ref a), some (.ref b), some (.ref N), some (.ref A2), y4, y5, y6, some (.ref L), y8'] ∧ Gr (Lf ls) (os.take (i + 1)) ns' ch' ∧ ch'.length ≤ i + 1 ∧ Hx N = some (.lst (ns'.map V.int)) ∧ Hx A2 = some (.lst ((ch'.map fun i : Nat => (i : Int)).map V.int)) ∧ TabS Hx Pt qL ∧ ∀ b' o, b' ≠ N → b' ≠ A2 → H3 b' = some o → Hx b' = some o := fun e he hle => ⟨ns, ch, _, _, _, _, rfl, by rw [et]; exact hG.skip prev he hle, by omega, eN, eA, hTx, kp⟩
            have lns : ns.length = ch.length := by rw [hG.map, List.length_map]
            refine ⟨_, rfl, _, .inl ⟨_, SqL.of eN, rfl⟩, ?_⟩
            have eA' : upd Hx N (.lst (ns.map V.int ++ [.int q0.2])) A2 = some (.lst ((ch.map fun i : Nat => (i : Int)).map V.int)) := by rw [upd_ne nNA.symm]; exact eA
            have sm1 : (ns.map V.int).length < sizeLine := small1000 (by rw [List.length_map]; omega)
            have sm2 : ((ch.map fun i : Nat => (i : Int)).map V.int).length < sizeLine := small1000 (by rw [List.length_map, List.length_map]; omega)
            refine ite2 (fun c2 => ite2 (fun _ => ?_) (fun z => absurd rfl z)) (fun c2 => ?_)
            · have c2 : (!(!(ns.map V.int).isEmpty)) = true := c2
              have n0 : ns = [] := by
                cases ns with
                | nil => rfl
                | cons => simp at c2
              exact ⟨_, rfl, .inl ⟨rfl, _, SqL.of eN⟩, _, rfl, N, _, _, rfl, rfl, eN, sm1, _, rfl, .inl ⟨rfl, _, SqL.of eA'⟩, _, rfl, A2, _, _, rfl, rfl, eA', sm2, app (fun e he => by rw [n0] at he; cases he)⟩
            · have c2 : ¬ (!(!(ns.map V.int).isEmpty)) = true := c2
              have n0 : ns ≠ [] := fun z => c2 (by rw [z]; rfl)
              obtain ⟨ns0, e0, e0e⟩ : ∃ ns0 e0, ns = ns0 ++ [e0] := ⟨_, _, (List.dropLast_concat_getLast n0).symm⟩
              have at0 : atI (ns.map V.int) (-1) = some (.int e0) := by
                rw [e0e, List.map_append]
                exact atI_last _ _
              have mx : ∀ e ∈ ns, e ≤ e0 := fun e he => by
                have hi' := hG.inc
                rw [e0e, List.pairwise_append] at hi'
                rw [e0e] at he
                rcases List.mem_append.mp he with z | z
                · exact Int.le_of_lt (hi'.2.2 e z e0 (List.mem_singleton.mpr rfl))
                · rw [List.mem_singleton.mp z]; exact Int.le_refl _
              refine ⟨_, rfl, 1, rfl, N, _, -1, _, rfl, rfl, SqL.of eN, at0, _, rfl, _, _, rfl, rfl, _, rfl, ite2 (fun c3 => ?_) (fun c3 => ?_)⟩
              · have lt3 : e0 < p0.1 := of_decide_eq_true c3
                exact ⟨_, rfl, .inl ⟨rfl, _, SqL.of eN⟩, _, rfl, N, _, _, rfl, rfl, eN, sm1, _, rfl, .inl ⟨rfl, _, SqL.of eA'⟩, _, rfl, A2, _, _, rfl, rfl, eA', sm2, app (fun e he => by have := mx e he; rw [L1]; omega)⟩
              · have le3 : p0.1 ≤ e0 := by
                  have : ¬ e0 < p0.1 := fun z => c3 (decide_eq_true z)
                  omega
                exact skip e0 (by rw [e0e]; exact List.mem_append_right _ (List.mem_singleton.mpr rfl)) (by rw [L1]; exact le3)
          · obtain ⟨ns, ch, y4, y5, y6, y8, rfl, hG, hcl, eN, eA, hTx, kp⟩ := hP
            rw [List.length_map, List.take_length] at hG
            refine ⟨_, rfl, _, rfl, A2, _, rfl, SqL.of eA, fun ns' p' _ _ np' => ⟨(by show 3 ≤ sizeLine; decide), fun T nT => ?_⟩⟩
            have s5 := same_upd (o := .lst (ns'.map V.int)) np'
            have s6 := same_upd (o := .tup [.str "samples", .ref N, .ref p']) nT
            refine qs none _ T N p' ns ⟨hTx.ext (s5.trans s6), fun b' o e nt => s6 _ _ (s5 _ _ (kp b' o (oldN b' o e).1 (oldN b' o e).2 (tb0.2 b' o e nt)))⟩ upd_same (s6 _ _ (s5 _ _ eN)) (samp_of hlj htold hne (fun i => ho i) hG)
end

open LamX
/-! ### the law of k45 -/
def spLaw (K : PySem.W.Frag) (Ms : GX.Mq) (Xs : List Addr) (Pc Pt Pn Pr Pb Pe Py Ps Pl : Addr) : Sp := fun vs H Q _ => ∃ (a : Addr) (ns : List Int), vs = [.ref a] ∧ SqL K H a (ns.map V.int) ∧ ns.length ≤ 63 ∧ GX.TQ Ms Xs H ∧ CoM Ms Pc Pt Pn Pr Pb Pe Py Ps ∧ (Pl, qL) ∈ Ms.ls ∧ ∀ H', Q (.bl true) H'
abbrev sLaw : Stmt := topS 36
theorem scLaw : FnScope ["_law_script", "_law_state", "_law_prices_here", "_law_runs_here", "_law_due"] ["_law_script"] (defScope sLaw) := ⟨rfl, rfl, rfl, by decide +kernel, rfl, by decide +kernel, by decide +kernel⟩
theorem costF_ones {n : Nat} : ∀ {S : List Int}, (∀ p ∈ S, 0 ≤ p ∧ p < n) → costF (prF (List.replicate n (1 : Int))) S = (S.length : Int)
  | [], _ => rfl
  | x :: S, h => by
    have hx := h x (List.mem_cons_self ..)
    obtain ⟨k, rfl⟩ := Int.eq_ofNat_of_zero_le hx.1
    have lk : k < (List.replicate n (1 : Int)).length := by rw [List.length_replicate]; omega
    rw [costF_cons', costF_ones fun p hp => h p (List.mem_cons_of_mem _ hp), prF_get lk, List.getElem_replicate, List.length_cons]
    omega
theorem least_ones {n : Nat} {rs : List (Int × Int)} {co : Int} {ns : List Int} (hr : RunIn n rs) (h : LeastC (List.replicate n (1 : Int)) rs co) (s : SampOk rs [] ns) : co = (ns.length : Int) := by
  have ln : (List.replicate n (1 : Int)).length = n := List.length_replicate ..
  obtain ⟨S, nd, hS, e⟩ := h.ex
  rw [ln] at hS
  rw [costF_ones hS.2] at e
  have h1 := s.low S (fun e _ z => by obtain ⟨p, hp, _⟩ := z; cases hp) hS.1
  have hns : HitS n rs ns := ⟨s.hit, fun p hp => by
    obtain ⟨_, r, hr', a, b⟩ := s.free p hp
    have := hr r hr'
    omega⟩
  have h2 := h.low ns (by rw [ln]; exact hns)
  rw [costF_ones hns.2] at h2
  omega
section
variable {K : PySem.W.Frag} {mg : Str → Option Value} {P : Program} {w : World} {base : Heap} {Ms : GX.Mq} {Xs : List Addr} {Pc Pt Pn Pr Pb Pe Py Ps Pl : Addr}
theorem ok_Law {f : Addr} {fd : FuncData} (F : Fun K "law" "law" sLaw f fd) (C__law_begin : Cal P w K mg base 1 "_law_begin" ["_law_script"] (spBegin K)) (C__law_price_case : Cal P w K mg base 4 "_law_price_case" ["_law_state", "_law_many", "_law_most"] spCase) (C__law_cost : Cal P w K mg base 10 "_law_cost" ["_law_prices_here", "_law_runs_here"] (spLCost K Ms Xs Pc Pt Pn Pr Pb Pe Py Ps)) (C__law_same_right : Cal P w K mg base 11 "_law_same_right" ["_law_state", "_law_prices_here", "_law_runs_here", "_law_due"] (spSameR K Ms Xs Pc Pt Pn Pr Pb Pe Py Ps)) (C__law_more_right : Cal P w K mg base 11 "_law_more_right" ["_law_state", "_law_prices_here", "_law_runs_here", "_law_due"] (spMoreR K Ms Xs Pc Pt Pn Pr Pb Pe Py Ps)) (C_least_samples : Cal P w K mg base 4 "least_samples" ["runs", "gone"] (spLeast K Pl)) (m_len : mg "len" = none) (m_list : mg "list" = none) : FnOk P w K mg base CX0 12 f fd ["_law_script"] (spLaw K Ms Xs Pc Pt Pn Pr Pb Pe Py Ps Pl) := by
  refine F.ok scLaw (fun vs H Q E h => ?_) (fun cdv A outer s H vs Q E hr h => ?_)
  · obtain ⟨a, ns, rfl, _⟩ := h
    rfl
  · obtain ⟨a, ns, rfl, hA, hl, hT, hM, hL, q⟩ := h
    refine ⟨_, pss_cons (ps_set (i := 1) scLaw.nd rfl (.inl rfl) (pe_own C__law_begin (hr.mono (show 1 ≤ 11 by decide)) (by rfl) (pa_cons (pv 0) pa_nil)))
      (pss_cons (ps_asg (pe_own C__law_price_case (hr.mono (show 4 ≤ 11 by decide)) (by rfl) (pa_cons (pv 1) (pa_cons pe_int (pa_cons pe_int pa_nil)))) (pg_tup rfl (pgs_cons (pg_name (i := 2) scLaw.nd rfl (.inl rfl)) (pgs_cons (pg_name (i := 3) scLaw.nd rfl (.inl rfl)) pgs_nil))))
      (pss_cons (ps_set (i := 4) scLaw.nd rfl (.inl rfl) (pe_own C__law_cost (hr.mono (show 10 ≤ 11 by decide)) (by rfl) (pa_cons (pv 2) (pa_cons (pv 3) pa_nil))))
      (pss_cons (ps_if (PW.pt (pw_or (pt_cmpR op_isN (pv 4) pe_non (nomark _)) (pw_or (pt_not (pt_val (pe_own C__law_same_right hr (by rfl) (pa_cons (pv 1) (pa_cons (pv 2) (pa_cons (pv 3) (pa_cons (pv 4) pa_nil))))))) (pw_or1 (pt_not (pt_val (pe_own C__law_more_right hr (by rfl) (pa_cons (pv 1) (pa_cons (pv 2) (pa_cons (pv 3) (pa_cons (pv 4) pa_nil))))))))))) (pss_one (ps_ret pe_bl))
        pss_nil)
      (pss_one (ps_ret (pe_cmpR op_eq (pe_own C__law_cost (hr.mono (show 10 ≤ 11 by decide)) (by rfl) (pa_cons (pe_op op_rep (pe_lst (pa_cons pe_int pa_nil)) (pe_callB call_len_seq (by rfl) m_len PySem.boot_len (pa_cons (pv 2) pa_nil))) (pa_cons (pv 3) pa_nil))) (pe_callB call_len_seq (by rfl) m_len PySem.boot_len (pa_cons (pe_ix ix_tup (pe_own C_least_samples (hr.mono (show 4 ≤ 11 by decide)) (by rfl) (pa_cons (pe_callTy call_list_of (by rfl) m_list (by decide +kernel) (pa_cons (pv 3) pa_nil)) (pa_cons (pe_lst pa_nil) pa_nil))) pe_int (fun _ _ => rfl)) pa_nil)) (nomark _))))))), ?_⟩
    refine ⟨.ref a, rfl, a, ns, rfl, hA, hl, fun d c H1 s1 nd nc hS1 => ?_⟩
    have hT1 := hT.same s1
    refine ⟨_, rfl, d, c, 0, 40, 22, rfl, hS1, by decide, by decide, by decide, by decide, by decide, fun T l r ps rs t2 H2 eT eL eR hall hr1 hp1 hpz hrz hr0 offl offr v0 v1 hS2 k2 => ?_⟩
    have hT2 := tq_kp hT1 hS1 k2
    have hps0 : ∀ x ∈ ps, 0 ≤ x := fun x hx => (hall x hx).1
    refine ⟨T, _, rfl, .inl (.inl eT), rfl, _, _, rfl, _, _, rfl, rfl, ?_⟩
    have S2 : PrS Ms Xs d c l r ps rs t2 H2 := ⟨eL, eR, hS2, hT2⟩
    refine ⟨_, rfl, _, rfl, l, r, ps, rs, rfl, eL, eR, hps0, by omega, by omega, by omega, hr0, hT2, hM, fun H3 co n3 t3 hco => ?_⟩
    have S3 := S2.noTab n3 t3
    refine ⟨_, rfl, rfl, _, rfl, ite2 (fun z => by cases z) (fun _ => ?_)⟩
    refine ⟨_, rfl, _, rfl, _, rfl, _, rfl, d, c, l, r, ps, rs, t2, co, rfl, S3, by omega, offl, offr, hps0, hp1, by omega, hr1, by omega, hr0, hco, hM, fun H4 t4 S4 w0 w1 => ⟨_, rfl, ite2 (fun z => nomatch z) (fun _ => ?_)⟩⟩
    refine ⟨_, rfl, _, rfl, _, rfl, _, rfl, d, c, l, r, ps, rs, t4, co, rfl, S4, by omega, offl, offr, hall, hp1, by omega, hr1, by omega, hr0, hco, hM, fun H5 t5 S5 w2 w3 => ⟨_, rfl, ite2 (fun z => nomatch z) (fun _ => ?_)⟩⟩
    have hA5 : H5 l = some (.lst (ps.map V.int)) := S5.a
    have lps : (ps.map V.int).length = ps.length := List.length_map ..
    refine ⟨Nat.le_of_ble_eq_true rfl, fun p0 np0 => ⟨_, rfl, l, _, rfl, .inl (SqL.of (same_upd np0 _ _ hA5)), p0, _, _, rfl, rfl, upd_same, by omega, by rw [lps]; omega, ?_, fun D nD => ?_⟩⟩
    · show 1 * _ ≤ _
      have e := small1000 (n := ((ps.map V.int).length : Int).toNat) (by rw [lps]; omega)
      omega
    have s0 := same_upd (o := .lst [.int 1]) np0
    have e0 : (List.replicate ((ps.map V.int).length : Int).toNat [V.int 1]).flatten = (List.replicate ps.length (1 : Int)).map V.int := by
      rw [List.map_replicate, Int.toNat_natCast, lps]
      generalize ps.length = n
      induction n with
      | zero => rfl
      | succ n ih => rw [List.replicate_succ, List.flatten_cons, ih, List.replicate_succ]; rfl
    rw [e0]
    have sD := same_upd (o := .lst ((List.replicate ps.length (1 : Int)).map V.int)) nD
    have eD : IntsA (upd (upd H5 p0 (.lst [.int 1])) D (.lst ((List.replicate ps.length (1 : Int)).map V.int))) D (List.replicate ps.length 1) := upd_same
    have S6 := S5.same (s0.trans sD)
    generalize upd (upd H5 p0 (.lst [.int 1])) D (.lst ((List.replicate ps.length (1 : Int)).map V.int)) = H6 at eD S6
    have ln : (List.replicate ps.length (1 : Int)).length = ps.length := List.length_replicate ..
    refine ⟨_, rfl, D, r, _, rs, rfl, eD, S6.b, fun x hx => by rw [(List.mem_replicate.mp hx).2]; decide, by omega, by omega, by omega, by rw [ln]; exact hr0, S6.q, hM, fun H7 c7 n7 t7 hc7 => ?_⟩
    have S7 := S6.noTab n7 t7
    obtain ⟨us, eB, pr⟩ := S7.b
    refine ⟨_, rfl, r, _, rfl, .inl (SqL.of eB), fun m nm => ?_⟩
    have sm := same_upd (o := .lst us) nm
    have em : upd H7 m (.lst us) m = some (.lst us) := upd_same
    generalize upd H7 m (.lst us) = H8 at sm em
    refine ⟨Nat.zero_le _, fun e ne => ?_⟩
    have se := same_upd (o := .lst []) ne
    have s79 := sm.trans se
    have hm : LsA (upd H8 e (.lst [])) m rs := ⟨us, se _ _ em, pr.1, fun i r er => let ⟨x, h1, h2⟩ := pr.2 i r er; ⟨x, h1, s79 _ _ h2⟩⟩
    have t9 := t7.same s79
    obtain ⟨_, _, hS⟩ := t9.lam _ hL
    have ng : ∀ r ∈ rs, allGB [] r = false := fun r hr => by
      cases h : allGB [] r with
      | false => rfl
      | true =>
        obtain ⟨p, hp, _⟩ := allGB_iff.mp h r.1 (Int.le_refl _) (hr0 r hr).2.1
        cases hp
    refine ⟨m, e, rs, [], rfl, hm, LsA.nil upd_same, by omega, Nat.zero_le _, fun r hr => (hr0 r hr).2.1, trivial, hS, fun i r er hg => ?_, fun _ H9 T9 N A9 ns9 tb9 eT9 eN9 hs9 => ?_⟩
    · rw [ng r (List.mem_of_getElem? er)] at hg
      cases hg
    · refine ⟨T9, _, 1, _, rfl, rfl, .inl (.inl eT9), atI_nat (j := 1) rfl, N, _, rfl, .inl (SqL.of eN9), rfl, ?_⟩
      have ec : c7 = (ns9.length : Int) := least_ones hr0 hc7 hs9
      rw [List.length_map, ec, decide_eq_true rfl]
      exact q H9
end

/-! ### the end: what the top has left, the tables of code objects among it -/
/-- each def of the text has a code object with an empty table -/
def Tabs (q : Program) (mg : Str → Option Value) (h : Heap) : Prop := ∀ dr ∈ recsOf q, ∃ (f : Addr) (o : Obj) (fd : FuncData) (c P : Addr), mg dr.name = some (.ref f) ∧ h.get? f = some o ∧ o.data = .func fd ∧ fd.code = .ref c ∧ PySem.W.CodeHd h c P ∧ h.get? P = some (PySem.W.tabObj #[])
theorem tab_in {q : Program} {mg : Str → Option Value} {h : Heap} {K : PySem.W.Frag} {y : Str} {f c P : Addr} {oc e : Value} {od dd : Option Addr} {fd : FuncData} {osl sl : Array (Option Value)} {vs : Array Value} (TT : Tabs q mg h) (X : K.In h) (rec : ((recsOf q).any fun r => r.name == y) = true)
    (g : mg y = some (.ref f)) (lf : K.lookup f = some ⟨oc, od, .func fd, osl⟩) (hc : fd.code = .ref c) (lc : K.lookup c = some ⟨e, dd, .fields vs, sl⟩) (v : vs[11]? = some (.ref P)) : PySem.W.CodeHd h c P ∧ h.get? P = some (PySem.W.tabObj #[]) := by
  obtain ⟨dr, mem, nm⟩ := List.any_eq_true.mp rec
  obtain ⟨f', o', fd', c', P', t1, t2, t3, t4, t5, t6⟩ := TT dr mem
  have ef : f' = f := by
    rw [beq_iff_eq.mp nm, g] at t1
    exact (Value.ref.inj (Option.some.inj t1)).symm
  rw [ef, X _ _ lf] at t2
  rw [← Option.some.inj t2] at t3
  have efd : fd = fd' := Data.func.inj t3
  rw [← efd, hc] at t4
  have ec : c = c' := Value.ref.inj t4
  rw [← ec] at t5
  have t5' := t5
  obtain ⟨oc', us, _, _, _, _, _, _, _, u1, _, u3, u4, _⟩ := t5'
  rw [X _ _ lc] at u1
  rw [← Option.some.inj u1] at u3
  have eu : vs = us := Data.fields.inj u3
  rw [← eu, v] at u4
  have eP : P = P' := Value.ref.inj (Option.some.inj u4)
  rw [eP]
  exact ⟨t5, t6⟩
theorem law_end {l : PySem.W.OpenLaw} {k : Nat} {q : Program} {loose : List Str} {XP : (Str → Option Value) → Heap → Prop} {YP : World → Heap → Prop} {d : DefRec} {K : Params → PySem.W.Frag} (most : l.most = some 63) (plain : d.params.defaults = []) (room : Room k callerA)
    (part : ∀ w h, YP w h → (K w.params).In h) (made : ∀ (w : World) (mg : Str → Option Value) (f : Addr) (h : Heap), (K w.params).In h → h.Ns mainGlobals mg → mg d.name = some (.ref f) → Tabs q mg h → LamX.LawAtS l w (K w.params) CX0 k 63 "_law_script" mg f h) : PySem.W.WalkO q loose XP YP l.row.toRowW d [] (fun f vs => PySem.call f vs) := by
  refine Att.attach_callB most plain ?_
  intro w _ s₁ mg _ f _ _ _ _ a vs ns ground said _ _ _ name script nums len size still
  have X := part w _ said
  have tabs : Tabs q mg s₁.heap := fun dr mem => by
    obtain ⟨f', o', fd', c', P', t1, t2, t3, t4, t5, t6⟩ := ground.T.tab dr mem
    exact ⟨f', o', fd', c', P', t1, t2, t3, t4, PySem.W.CodeHd.of t5 t6, t6.2⟩
  obtain ⟨fd, cs, sp, e1, e2, e3, e4, e5, e6⟩ := made w mg f _ X ground.T.g name tabs
  exact LamX.law_callTs X ground.T.g ground.T.b ground.T.builtins ground.T.nolimit still e1 e2 e3 ground.T.bmain script nums (Nat.le_trans len (by decide)) room e6 e4 (fun H z1 z2 => e5 H a ns len size z1 z2) fun _ _ _ z => z

theorem all_mk {l : PySem.W.OpenLaw} {q : Program} {w : World} {K : PySem.W.Frag} {h : Heap} {mg : Str → Option Value} {fa f0 f1 f2 f3 f4 f5 f6 f7 f8 f9 f10 f11 f12 f13 f14 f15 f16 f17 f18 f19 f20 f21 f22 f23 f24 f25 f26 f27 f28 f29 f30 : Addr} {c2 P2 c3 P3 c7 P7 c8 P8 c9 P9 c14 P14 c15 P15 c16 P16 c17 P17 : Addr} (X : K.In h) (G : h.Ns mainGlobals mg) (hfa : mg "law" = some (.ref fa)) (TT : Tabs q mg h)
    {od0 an0 od1 an1 od2 an2 od3 an3 od4 an4 od5 an5 od6 an6 od7 an7 od8 an8 od9 an9 od10 an10 od11 an11 od12 an12 od13 an13 od14 an14 od15 an15 od16 an16 od17 an17 od18 an18 od19 an19 od20 an20 od21 an21 od22 an22 od23 an23 od24 an24 od25 an25 od26 an26 od27 an27 od28 an28 od29 an29 od30 an30 : Option Addr} {sl0 sl1 sl2 sl3 sl4 sl5 sl6 sl7 sl8 sl9 sl10 sl11 sl12 sl13 sl14 sl15 sl16 sl17 sl18 sl19 sl20 sl21 sl22 sl23 sl24 sl25 sl26 sl27 sl28 sl29 sl30 : Array (Option Value)} {oc0 kV0 dc0 pm0 ct0 cd0 oc1 kV1 dc1 pm1 ct1 cd1 oc2 kV2 dc2 pm2 ct2 oc3 kV3 dc3 pm3 ct3 oc4 kV4 dc4 pm4 ct4 cd4 oc5 kV5 dc5 pm5 ct5 cd5 oc6 kV6 dc6 pm6 ct6 cd6 oc7 kV7 dc7 pm7 ct7 oc8 kV8 dc8 pm8 ct8 oc9 kV9 dc9 pm9 ct9 oc10 kV10 dc10 pm10 ct10 cd10 oc11 kV11 dc11 pm11 ct11 cd11 oc12 kV12 dc12 pm12 ct12 cd12 oc13 kV13 dc13 pm13 ct13 cd13 oc14 kV14 dc14 pm14 ct14 oc15 kV15 dc15 pm15 ct15 oc16 kV16 dc16 pm16 ct16 oc17 kV17 dc17 pm17 ct17 oc18 kV18 dc18 pm18 ct18 cd18 oc19 kV19 dc19 pm19 ct19 cd19 oc20 kV20 dc20 pm20 ct20 cd20 oc21 kV21 dc21 pm21 ct21 cd21 oc22 kV22 dc22 pm22 ct22 cd22 oc23 kV23 dc23 pm23 ct23 cd23 oc24 kV24 dc24 pm24 ct24 cd24 oc25 kV25 dc25 pm25 ct25 cd25 oc26 kV26 dc26 pm26 ct26 cd26 oc27 kV27 dc27 pm27 ct27 cd27 oc28 kV28 dc28 pm28 ct28 cd28 oc29 kV29 dc29 pm29 ct29 cd29 oc30 kV30 dc30 pm30 ct30 cd30 : Value}
    {e2 : Value} {dd2 : Option Addr} {vs2 : Array Value} {sc2 : Array (Option Value)} {e3 : Value} {dd3 : Option Addr} {vs3 : Array Value} {sc3 : Array (Option Value)} {e7 : Value} {dd7 : Option Addr} {vs7 : Array Value} {sc7 : Array (Option Value)} {e8 : Value} {dd8 : Option Addr} {vs8 : Array Value} {sc8 : Array (Option Value)} {e9 : Value} {dd9 : Option Addr} {vs9 : Array Value} {sc9 : Array (Option Value)} {e14 : Value} {dd14 : Option Addr} {vs14 : Array Value} {sc14 : Array (Option Value)} {e15 : Value} {dd15 : Option Addr} {vs15 : Array Value} {sc15 : Array (Option Value)} {e16 : Value} {dd16 : Option Addr} {vs16 : Array Value} {sc16 : Array (Option Value)} {e17 : Value} {dd17 : Option Addr} {vs17 : Array Value} {sc17 : Array (Option Value)}
    (a0 : PySem.W.nsIn K mainGlobals "furthest_back" = some (some (.ref f0))) (l0 : K.lookup f0 = some ⟨oc0, od0, .func (PySem.W.fnOf "furthest_back" "furthest_back" (defArgs sBacks) (defBody sBacks) (defScope sBacks) .none kV0 dc0 pm0 an0 cd0 ct0), sl0⟩) (c0' : PySem.W.codeIn K cd0 "furthest_back" = true) (k0 : PySem.W.keepIn K (.ref f0) = true)
    (a1 : PySem.W.nsIn K mainGlobals "least_places" = some (some (.ref f1))) (l1 : K.lookup f1 = some ⟨oc1, od1, .func (PySem.W.fnOf "least_places" "least_places" (defArgs sPlaces) (defBody sPlaces) (defScope sPlaces) .none kV1 dc1 pm1 an1 cd1 ct1), sl1⟩) (c1' : PySem.W.codeIn K cd1 "least_places" = true) (k1 : PySem.W.keepIn K (.ref f1) = true)
    (a2 : PySem.W.nsIn K mainGlobals "most_dues" = some (some (.ref f2))) (l2 : K.lookup f2 = some ⟨oc2, od2, .func (PySem.W.fnOf "most_dues" "most_dues" (defArgs sDues) (defBody sDues) (defScope sDues) .none kV2 dc2 pm2 an2 (.ref c2) ct2), sl2⟩) (c2' : PySem.W.codeIn K (.ref c2) "most_dues" = true) (k2 : PySem.W.keepIn K (.ref f2) = true)
    (a3 : PySem.W.nsIn K mainGlobals "least_cost" = some (some (.ref f3))) (l3 : K.lookup f3 = some ⟨oc3, od3, .func (PySem.W.fnOf "least_cost" "least_cost" (defArgs sCost) (defBody sCost) (defScope sCost) .none kV3 dc3 pm3 an3 (.ref c3) ct3), sl3⟩) (c3' : PySem.W.codeIn K (.ref c3) "least_cost" = true) (k3 : PySem.W.keepIn K (.ref f3) = true)
    (a4 : PySem.W.nsIn K mainGlobals "is_row" = some (some (.ref f4))) (l4 : K.lookup f4 = some ⟨oc4, od4, .func (PySem.W.fnOf "is_row" "is_row" (defArgs sIsRow) (defBody sIsRow) (defScope sIsRow) .none kV4 dc4 pm4 an4 cd4 ct4), sl4⟩) (c4' : PySem.W.codeIn K cd4 "is_row" = true) (k4 : PySem.W.keepIn K (.ref f4) = true)
    (a5 : PySem.W.nsIn K mainGlobals "is_tuple_of" = some (some (.ref f5))) (l5 : K.lookup f5 = some ⟨oc5, od5, .func (PySem.W.fnOf "is_tuple_of" "is_tuple_of" (defArgs sTupOf) (defBody sTupOf) (defScope sTupOf) .none kV5 dc5 pm5 an5 cd5 ct5), sl5⟩) (c5' : PySem.W.codeIn K cd5 "is_tuple_of" = true) (k5 : PySem.W.keepIn K (.ref f5) = true)
    (a6 : PySem.W.nsIn K mainGlobals "is_number" = some (some (.ref f6))) (l6 : K.lookup f6 = some ⟨oc6, od6, .func (PySem.W.fnOf "is_number" "is_number" (defArgs sIsNum) (defBody sIsNum) (defScope sIsNum) .none kV6 dc6 pm6 an6 cd6 ct6), sl6⟩) (c6' : PySem.W.codeIn K cd6 "is_number" = true) (k6 : PySem.W.keepIn K (.ref f6) = true)
    (a7 : PySem.W.nsIn K mainGlobals "are_numbers" = some (some (.ref f7))) (l7 : K.lookup f7 = some ⟨oc7, od7, .func (PySem.W.fnOf "are_numbers" "are_numbers" (defArgs sNums) (defBody sNums) (defScope sNums) .none kV7 dc7 pm7 an7 (.ref c7) ct7), sl7⟩) (c7' : PySem.W.codeIn K (.ref c7) "are_numbers" = true) (k7 : PySem.W.keepIn K (.ref f7) = true)
    (a8 : PySem.W.nsIn K mainGlobals "are_rising" = some (some (.ref f8))) (l8 : K.lookup f8 = some ⟨oc8, od8, .func (PySem.W.fnOf "are_rising" "are_rising" (defArgs sRising) (defBody sRising) (defScope sRising) .none kV8 dc8 pm8 an8 (.ref c8) ct8), sl8⟩) (c8' : PySem.W.codeIn K (.ref c8) "are_rising" = true) (k8 : PySem.W.keepIn K (.ref f8) = true)
    (a9 : PySem.W.nsIn K mainGlobals "are_rising_below" = some (some (.ref f9))) (l9 : K.lookup f9 = some ⟨oc9, od9, .func (PySem.W.fnOf "are_rising_below" "are_rising_below" (defArgs sBelow) (defBody sBelow) (defScope sBelow) .none kV9 dc9 pm9 an9 (.ref c9) ct9), sl9⟩) (c9' : PySem.W.codeIn K (.ref c9) "are_rising_below" = true) (k9 : PySem.W.keepIn K (.ref f9) = true)
    (a10 : PySem.W.nsIn K mainGlobals "set_of" = some (some (.ref f10))) (l10 : K.lookup f10 = some ⟨oc10, od10, .func (PySem.W.fnOf "set_of" "set_of" (defArgs sSetOf) (defBody sSetOf) (defScope sSetOf) .none kV10 dc10 pm10 an10 cd10 ct10), sl10⟩) (c10' : PySem.W.codeIn K cd10 "set_of" = true) (k10 : PySem.W.keepIn K (.ref f10) = true)
    (a11 : PySem.W.nsIn K mainGlobals "both_of" = some (some (.ref f11))) (l11 : K.lookup f11 = some ⟨oc11, od11, .func (PySem.W.fnOf "both_of" "both_of" (defArgs sBoth) (defBody sBoth) (defScope sBoth) .none kV11 dc11 pm11 an11 cd11 ct11), sl11⟩) (c11' : PySem.W.codeIn K cd11 "both_of" = true) (k11 : PySem.W.keepIn K (.ref f11) = true)
    (a12 : PySem.W.nsIn K mainGlobals "gaps_of" = some (some (.ref f12))) (l12 : K.lookup f12 = some ⟨oc12, od12, .func (PySem.W.fnOf "gaps_of" "gaps_of" (defArgs sGaps) (defBody sGaps) (defScope sGaps) .none kV12 dc12 pm12 an12 cd12 ct12), sl12⟩) (c12' : PySem.W.codeIn K cd12 "gaps_of" = true) (k12 : PySem.W.keepIn K (.ref f12) = true)
    (a13 : PySem.W.nsIn K mainGlobals "without" = some (some (.ref f13))) (l13 : K.lookup f13 = some ⟨oc13, od13, .func (PySem.W.fnOf "without" "without" (defArgs sWithout) (defBody sWithout) (defScope sWithout) .none kV13 dc13 pm13 an13 cd13 ct13), sl13⟩) (c13' : PySem.W.codeIn K cd13 "without" = true) (k13 : PySem.W.keepIn K (.ref f13) = true)
    (a14 : PySem.W.nsIn K mainGlobals "each_has_one" = some (some (.ref f14))) (l14 : K.lookup f14 = some ⟨oc14, od14, .func (PySem.W.fnOf "each_has_one" "each_has_one" (defArgs sEach) (defBody sEach) (defScope sEach) .none kV14 dc14 pm14 an14 (.ref c14) ct14), sl14⟩) (c14' : PySem.W.codeIn K (.ref c14) "each_has_one" = true) (k14 : PySem.W.keepIn K (.ref f14) = true)
    (a15 : PySem.W.nsIn K mainGlobals "are_payable" = some (some (.ref f15))) (l15 : K.lookup f15 = some ⟨oc15, od15, .func (PySem.W.fnOf "are_payable" "are_payable" (defArgs sPay) (defBody sPay) (defScope sPay) .none kV15 dc15 pm15 an15 (.ref c15) ct15), sl15⟩) (c15' : PySem.W.codeIn K (.ref c15) "are_payable" = true) (k15 : PySem.W.keepIn K (.ref f15) = true)
    (a16 : PySem.W.nsIn K mainGlobals "shows_cost" = some (some (.ref f16))) (l16 : K.lookup f16 = some ⟨oc16, od16, .func (PySem.W.fnOf "shows_cost" "shows_cost" (defArgs sShows) (defBody sShows) (defScope sShows) .none kV16 dc16 pm16 an16 (.ref c16) ct16), sl16⟩) (c16' : PySem.W.codeIn K (.ref c16) "shows_cost" = true) (k16 : PySem.W.keepIn K (.ref f16) = true)
    (a17 : PySem.W.nsIn K mainGlobals "least_samples" = some (some (.ref f17))) (l17 : K.lookup f17 = some ⟨oc17, od17, .func (PySem.W.fnOf "least_samples" "least_samples" (defArgs sLeast) (defBody sLeast) (defScope sLeast) .none kV17 dc17 pm17 an17 (.ref c17) ct17), sl17⟩) (c17' : PySem.W.codeIn K (.ref c17) "least_samples" = true) (k17 : PySem.W.keepIn K (.ref f17) = true)
    (a18 : PySem.W.nsIn K mainGlobals "_law_begin" = some (some (.ref f18))) (l18 : K.lookup f18 = some ⟨oc18, od18, .func (PySem.W.fnOf "_law_begin" "_law_begin" (defArgs sBegin) (defBody sBegin) (defScope sBegin) .none kV18 dc18 pm18 an18 cd18 ct18), sl18⟩) (c18' : PySem.W.codeIn K cd18 "_law_begin" = true) (k18 : PySem.W.keepIn K (.ref f18) = true)
    (a19 : PySem.W.nsIn K mainGlobals "_law_take" = some (some (.ref f19))) (l19 : K.lookup f19 = some ⟨oc19, od19, .func (PySem.W.fnOf "_law_take" "_law_take" (defArgs sTake) (defBody sTake) (defScope sTake) .none kV19 dc19 pm19 an19 cd19 ct19), sl19⟩) (c19' : PySem.W.codeIn K cd19 "_law_take" = true) (k19 : PySem.W.keepIn K (.ref f19) = true)
    (a20 : PySem.W.nsIn K mainGlobals "_law_great" = some (some (.ref f20))) (l20 : K.lookup f20 = some ⟨oc20, od20, .func (PySem.W.fnOf "_law_great" "_law_great" (defArgs sGreat) (defBody sGreat) (defScope sGreat) .none kV20 dc20 pm20 an20 cd20 ct20), sl20⟩) (c20' : PySem.W.codeIn K cd20 "_law_great" = true) (k20 : PySem.W.keepIn K (.ref f20) = true)
    (a21 : PySem.W.nsIn K mainGlobals "_law_runs" = some (some (.ref f21))) (l21 : K.lookup f21 = some ⟨oc21, od21, .func (PySem.W.fnOf "_law_runs" "_law_runs" (defArgs sRuns) (defBody sRuns) (defScope sRuns) .none kV21 dc21 pm21 an21 cd21 ct21), sl21⟩) (c21' : PySem.W.codeIn K cd21 "_law_runs" = true) (k21 : PySem.W.keepIn K (.ref f21) = true)
    (a22 : PySem.W.nsIn K mainGlobals "_law_prices" = some (some (.ref f22))) (l22 : K.lookup f22 = some ⟨oc22, od22, .func (PySem.W.fnOf "_law_prices" "_law_prices" (defArgs sPrices) (defBody sPrices) (defScope sPrices) .none kV22 dc22 pm22 an22 cd22 ct22), sl22⟩) (c22' : PySem.W.codeIn K cd22 "_law_prices" = true) (k22 : PySem.W.keepIn K (.ref f22) = true)
    (a23 : PySem.W.nsIn K mainGlobals "_law_price_case" = some (some (.ref f23))) (l23 : K.lookup f23 = some ⟨oc23, od23, .func (PySem.W.fnOf "_law_price_case" "_law_price_case" (defArgs sCase) (defBody sCase) (defScope sCase) .none kV23 dc23 pm23 an23 cd23 ct23), sl23⟩) (c23' : PySem.W.codeIn K cd23 "_law_price_case" = true) (k23 : PySem.W.keepIn K (.ref f23) = true)
    (a24 : PySem.W.nsIn K mainGlobals "_law_is_number" = some (some (.ref f24))) (l24 : K.lookup f24 = some ⟨oc24, od24, .func (PySem.W.fnOf "_law_is_number" "_law_is_number" (defArgs sLNum) (defBody sLNum) (defScope sLNum) .none kV24 dc24 pm24 an24 cd24 ct24), sl24⟩) (c24' : PySem.W.codeIn K cd24 "_law_is_number" = true) (k24 : PySem.W.keepIn K (.ref f24) = true)
    (a25 : PySem.W.nsIn K mainGlobals "_law_cost_shown" = some (some (.ref f25))) (l25 : K.lookup f25 = some ⟨oc25, od25, .func (PySem.W.fnOf "_law_cost_shown" "_law_cost_shown" (defArgs sShown) (defBody sShown) (defScope sShown) .none kV25 dc25 pm25 an25 cd25 ct25), sl25⟩) (c25' : PySem.W.codeIn K cd25 "_law_cost_shown" = true) (k25 : PySem.W.keepIn K (.ref f25) = true)
    (a26 : PySem.W.nsIn K mainGlobals "_law_cost" = some (some (.ref f26))) (l26 : K.lookup f26 = some ⟨oc26, od26, .func (PySem.W.fnOf "_law_cost" "_law_cost" (defArgs sLCost) (defBody sLCost) (defScope sLCost) .none kV26 dc26 pm26 an26 cd26 ct26), sl26⟩) (c26' : PySem.W.codeIn K cd26 "_law_cost" = true) (k26 : PySem.W.keepIn K (.ref f26) = true)
    (a27 : PySem.W.nsIn K mainGlobals "_law_ordered" = some (some (.ref f27))) (l27 : K.lookup f27 = some ⟨oc27, od27, .func (PySem.W.fnOf "_law_ordered" "_law_ordered" (defArgs sOrdered) (defBody sOrdered) (defScope sOrdered) .none kV27 dc27 pm27 an27 cd27 ct27), sl27⟩) (c27' : PySem.W.codeIn K cd27 "_law_ordered" = true) (k27 : PySem.W.keepIn K (.ref f27) = true)
    (a28 : PySem.W.nsIn K mainGlobals "_law_same_right" = some (some (.ref f28))) (l28 : K.lookup f28 = some ⟨oc28, od28, .func (PySem.W.fnOf "_law_same_right" "_law_same_right" (defArgs sSameR) (defBody sSameR) (defScope sSameR) .none kV28 dc28 pm28 an28 cd28 ct28), sl28⟩) (c28' : PySem.W.codeIn K cd28 "_law_same_right" = true) (k28 : PySem.W.keepIn K (.ref f28) = true)
    (a29 : PySem.W.nsIn K mainGlobals "_law_more_right" = some (some (.ref f29))) (l29 : K.lookup f29 = some ⟨oc29, od29, .func (PySem.W.fnOf "_law_more_right" "_law_more_right" (defArgs sMoreR) (defBody sMoreR) (defScope sMoreR) .none kV29 dc29 pm29 an29 cd29 ct29), sl29⟩) (c29' : PySem.W.codeIn K cd29 "_law_more_right" = true) (k29 : PySem.W.keepIn K (.ref f29) = true)
    (a30 : PySem.W.nsIn K mainGlobals "law" = some (some (.ref f30))) (l30 : K.lookup f30 = some ⟨oc30, od30, .func (PySem.W.fnOf "law" "law" (defArgs sLaw) (defBody sLaw) (defScope sLaw) .none kV30 dc30 pm30 an30 cd30 ct30), sl30⟩) (c30' : PySem.W.codeIn K cd30 "law" = true) (k30 : PySem.W.keepIn K (.ref f30) = true)
    (lc2 : K.lookup c2 = some ⟨e2, dd2, .fields vs2, sc2⟩) (v2 : vs2[11]? = some (.ref P2)) (nP2 : K.lookup P2 = none) (r2 : ((recsOf q).any fun e => e.name == ("most_dues" : Str)) = true)
    (lc3 : K.lookup c3 = some ⟨e3, dd3, .fields vs3, sc3⟩) (v3 : vs3[11]? = some (.ref P3)) (nP3 : K.lookup P3 = none) (r3 : ((recsOf q).any fun e => e.name == ("least_cost" : Str)) = true)
    (lc7 : K.lookup c7 = some ⟨e7, dd7, .fields vs7, sc7⟩) (v7 : vs7[11]? = some (.ref P7)) (nP7 : K.lookup P7 = none) (r7 : ((recsOf q).any fun e => e.name == ("are_numbers" : Str)) = true)
    (lc8 : K.lookup c8 = some ⟨e8, dd8, .fields vs8, sc8⟩) (v8 : vs8[11]? = some (.ref P8)) (nP8 : K.lookup P8 = none) (r8 : ((recsOf q).any fun e => e.name == ("are_rising" : Str)) = true)
    (lc9 : K.lookup c9 = some ⟨e9, dd9, .fields vs9, sc9⟩) (v9 : vs9[11]? = some (.ref P9)) (nP9 : K.lookup P9 = none) (r9 : ((recsOf q).any fun e => e.name == ("are_rising_below" : Str)) = true)
    (lc14 : K.lookup c14 = some ⟨e14, dd14, .fields vs14, sc14⟩) (v14 : vs14[11]? = some (.ref P14)) (nP14 : K.lookup P14 = none) (r14 : ((recsOf q).any fun e => e.name == ("each_has_one" : Str)) = true)
    (lc15 : K.lookup c15 = some ⟨e15, dd15, .fields vs15, sc15⟩) (v15 : vs15[11]? = some (.ref P15)) (nP15 : K.lookup P15 = none) (r15 : ((recsOf q).any fun e => e.name == ("are_payable" : Str)) = true)
    (lc16 : K.lookup c16 = some ⟨e16, dd16, .fields vs16, sc16⟩) (v16 : vs16[11]? = some (.ref P16)) (nP16 : K.lookup P16 = none) (r16 : ((recsOf q).any fun e => e.name == ("shows_cost" : Str)) = true)
    (lc17 : K.lookup c17 = some ⟨e17, dd17, .fields vs17, sc17⟩) (v17 : vs17[11]? = some (.ref P17)) (nP17 : K.lookup P17 = none) (r17 : ((recsOf q).any fun e => e.name == ("least_samples" : Str)) = true)
    (x_PP : P2 ∉ [P3, P7, P8, P9, P14, P15, P16])
    (x_PR : P17 ∉ [P3, P7, P8, P9, P14, P15, P16])
    (x_QQ : P17 ≠ P2)
    (z_all : PySem.W.nsIn K mainGlobals "all" = some none) (z_any : PySem.W.nsIn K mainGlobals "any" = some none) (z_bool : PySem.W.nsIn K mainGlobals "bool" = some none) (z_divmod : PySem.W.nsIn K mainGlobals "divmod" = some none) (z_enumerate : PySem.W.nsIn K mainGlobals "enumerate" = some none) (z_int : PySem.W.nsIn K mainGlobals "int" = some none) (z_isinstance : PySem.W.nsIn K mainGlobals "isinstance" = some none) (z_len : PySem.W.nsIn K mainGlobals "len" = some none) (z_list : PySem.W.nsIn K mainGlobals "list" = some none) (z_max : PySem.W.nsIn K mainGlobals "max" = some none) (z_min : PySem.W.nsIn K mainGlobals "min" = some none) (z_range : PySem.W.nsIn K mainGlobals "range" = some none) (z_sorted : PySem.W.nsIn K mainGlobals "sorted" = some none) (z_sum : PySem.W.nsIn K mainGlobals "sum" = some none) (z_tuple : PySem.W.nsIn K mainGlobals "tuple" = some none) (z_zip : PySem.W.nsIn K mainGlobals "zip" = some none) :
    LamX.LawAtS l w K CX0 12 63 "_law_script" mg fa h := by
  cases hfa.symm.trans (PySem.W.mg_of X G a30)
  have F0 := fun_mk (st := sBacks) l0 c0' k0
  have b0 := F0.binds (ps := ["many", "runs"]) fun _ _ _ _ _ _ us hl => match us, hl with | [_, _], _ => rfl
  have F1 := fun_mk (st := sPlaces) l1 c1' k1
  have b1 := F1.binds (ps := ["prices", "runs"]) fun _ _ _ _ _ _ us hl => match us, hl with | [_, _], _ => rfl
  have F2 := fun_mk (st := sDues) l2 c2' k2
  have b2 := F2.binds (ps := ["prices", "runs"]) fun _ _ _ _ _ _ us hl => match us, hl with | [_, _], _ => rfl
  have F3 := fun_mk (st := sCost) l3 c3' k3
  have b3 := F3.binds (ps := ["prices", "runs"]) fun _ _ _ _ _ _ us hl => match us, hl with | [_, _], _ => rfl
  have F4 := fun_mk (st := sIsRow) l4 c4' k4
  have b4 := F4.binds (ps := ["thing"]) fun _ _ _ _ _ _ us hl => match us, hl with | [_], _ => rfl
  have F5 := fun_mk (st := sTupOf) l5 c5' k5
  have b5 := F5.binds (ps := ["thing", "many"]) fun _ _ _ _ _ _ us hl => match us, hl with | [_, _], _ => rfl
  have F6 := fun_mk (st := sIsNum) l6 c6' k6
  have b6 := F6.binds (ps := ["thing"]) fun _ _ _ _ _ _ us hl => match us, hl with | [_], _ => rfl
  have F7 := fun_mk (st := sNums) l7 c7' k7
  have b7 := F7.binds (ps := ["thing"]) fun _ _ _ _ _ _ us hl => match us, hl with | [_], _ => rfl
  have F8 := fun_mk (st := sRising) l8 c8' k8
  have b8 := F8.binds (ps := ["thing"]) fun _ _ _ _ _ _ us hl => match us, hl with | [_], _ => rfl
  have F9 := fun_mk (st := sBelow) l9 c9' k9
  have b9 := F9.binds (ps := ["thing", "many"]) fun _ _ _ _ _ _ us hl => match us, hl with | [_, _], _ => rfl
  have F10 := fun_mk (st := sSetOf) l10 c10' k10
  have b10 := F10.binds (ps := ["pairs"]) fun _ _ _ _ _ _ us hl => match us, hl with | [_], _ => rfl
  have F11 := fun_mk (st := sBoth) l11 c11' k11
  have b11 := F11.binds (ps := ["one", "other"]) fun _ _ _ _ _ _ us hl => match us, hl with | [_, _], _ => rfl
  have F12 := fun_mk (st := sGaps) l12 c12' k12
  have b12 := F12.binds (ps := ["some", "begin", "end"]) fun _ _ _ _ _ _ us hl => match us, hl with | [_, _, _], _ => rfl
  have F13 := fun_mk (st := sWithout) l13 c13' k13
  have b13 := F13.binds (ps := ["one", "other"]) fun _ _ _ _ _ _ us hl => match us, hl with | [_, _], _ => rfl
  have F14 := fun_mk (st := sEach) l14 c14' k14
  have b14 := F14.binds (ps := ["runs", "numbers"]) fun _ _ _ _ _ _ us hl => match us, hl with | [_, _], _ => rfl
  have F15 := fun_mk (st := sPay) l15 c15' k15
  have b15 := F15.binds (ps := ["prices", "runs", "dues"]) fun _ _ _ _ _ _ us hl => match us, hl with | [_, _, _], _ => rfl
  have F16 := fun_mk (st := sShows) l16 c16' k16
  have b16 := F16.binds (ps := ["prices", "runs", "told"]) fun _ _ _ _ _ _ us hl => match us, hl with | [_, _, _], _ => rfl
  have F17 := fun_mk (st := sLeast) l17 c17' k17
  have b17 := F17.binds (ps := ["runs", "gone"]) fun _ _ _ _ _ _ us hl => match us, hl with | [_, _], _ => rfl
  have F18 := fun_mk (st := sBegin) l18 c18' k18
  have b18 := F18.binds (ps := ["_law_script"]) fun _ _ _ _ _ _ us hl => match us, hl with | [_], _ => rfl
  have F19 := fun_mk (st := sTake) l19 c19' k19
  have b19 := F19.binds (ps := ["_law_state", "_law_many"]) fun _ _ _ _ _ _ us hl => match us, hl with | [_, _], _ => rfl
  have F20 := fun_mk (st := sGreat) l20 c20' k20
  have b20 := F20.binds (ps := ["_law_state"]) fun _ _ _ _ _ _ us hl => match us, hl with | [_], _ => rfl
  have F21 := fun_mk (st := sRuns) l21 c21' k21
  have b21 := F21.binds (ps := ["_law_state", "_law_many", "_law_most", "_law_wide"]) fun _ _ _ _ _ _ us hl => match us, hl with | [_, _, _, _], _ => rfl
  have F22 := fun_mk (st := sPrices) l22 c22' k22
  have b22 := F22.binds (ps := ["_law_state", "_law_many"]) fun _ _ _ _ _ _ us hl => match us, hl with | [_, _], _ => rfl
  have F23 := fun_mk (st := sCase) l23 c23' k23
  have b23 := F23.binds (ps := ["_law_state", "_law_many", "_law_most"]) fun _ _ _ _ _ _ us hl => match us, hl with | [_, _, _], _ => rfl
  have F24 := fun_mk (st := sLNum) l24 c24' k24
  have b24 := F24.binds (ps := ["_law_thing"]) fun _ _ _ _ _ _ us hl => match us, hl with | [_], _ => rfl
  have F25 := fun_mk (st := sShown) l25 c25' k25
  have b25 := F25.binds (ps := ["_law_prices_here", "_law_runs_here", "_law_told"]) fun _ _ _ _ _ _ us hl => match us, hl with | [_, _, _], _ => rfl
  have F26 := fun_mk (st := sLCost) l26 c26' k26
  have b26 := F26.binds (ps := ["_law_prices_here", "_law_runs_here"]) fun _ _ _ _ _ _ us hl => match us, hl with | [_, _], _ => rfl
  have F27 := fun_mk (st := sOrdered) l27 c27' k27
  have b27 := F27.binds (ps := ["_law_state", "_law_runs_here"]) fun _ _ _ _ _ _ us hl => match us, hl with | [_, _], _ => rfl
  have F28 := fun_mk (st := sSameR) l28 c28' k28
  have b28 := F28.binds (ps := ["_law_state", "_law_prices_here", "_law_runs_here", "_law_due"]) fun _ _ _ _ _ _ us hl => match us, hl with | [_, _, _, _], _ => rfl
  have F29 := fun_mk (st := sMoreR) l29 c29' k29
  have b29 := F29.binds (ps := ["_law_state", "_law_prices_here", "_law_runs_here", "_law_due"]) fun _ _ _ _ _ _ us hl => match us, hl with | [_, _, _, _], _ => rfl
  have F30 := fun_mk (st := sLaw) l30 c30' k30
  have m_all := PySem.W.mg_none_of X G z_all
  have m_any := PySem.W.mg_none_of X G z_any
  have m_bool := PySem.W.mg_none_of X G z_bool
  have m_divmod := PySem.W.mg_none_of X G z_divmod
  have m_enumerate := PySem.W.mg_none_of X G z_enumerate
  have m_int := PySem.W.mg_none_of X G z_int
  have m_isinstance := PySem.W.mg_none_of X G z_isinstance
  have m_len := PySem.W.mg_none_of X G z_len
  have m_list := PySem.W.mg_none_of X G z_list
  have m_max := PySem.W.mg_none_of X G z_max
  have m_min := PySem.W.mg_none_of X G z_min
  have m_range := PySem.W.mg_none_of X G z_range
  have m_sorted := PySem.W.mg_none_of X G z_sorted
  have m_sum := PySem.W.mg_none_of X G z_sum
  have m_tuple := PySem.W.mg_none_of X G z_tuple
  have m_zip := PySem.W.mg_none_of X G z_zip
  have tb2 := tab_in TT X r2 (PySem.W.mg_of X G a2) l2 rfl lc2 v2
  have tb3 := tab_in TT X r3 (PySem.W.mg_of X G a3) l3 rfl lc3 v3
  have tb7 := tab_in TT X r7 (PySem.W.mg_of X G a7) l7 rfl lc7 v7
  have tb8 := tab_in TT X r8 (PySem.W.mg_of X G a8) l8 rfl lc8 v8
  have tb9 := tab_in TT X r9 (PySem.W.mg_of X G a9) l9 rfl lc9 v9
  have tb14 := tab_in TT X r14 (PySem.W.mg_of X G a14) l14 rfl lc14 v14
  have tb15 := tab_in TT X r15 (PySem.W.mg_of X G a15) l15 rfl lc15 v15
  have tb16 := tab_in TT X r16 (PySem.W.mg_of X G a16) l16 rfl lc16 v16
  have tb17 := tab_in TT X r17 (PySem.W.mg_of X G a17) l17 rfl lc17 v17
  refine ⟨PySem.W.fnOf "law" "law" (defArgs sLaw) (defBody sLaw) (defScope sLaw) .none kV30 dc30 pm30 an30 cd30 ct30, [(c2, P2), (c3, P3), (c7, P7), (c8, P8), (c9, P9), (c14, P14), (c15, P15), (c16, P16), (c17, P17)], spLaw K ⟨[P3, P7, P8, P9, P14, P15, P16], [(P2, qD), (P17, qL)]⟩ [P2, P17, P3, P7, P8, P9, P14, P15, P16] P3 P2 P7 P8 P9 P14 P15 P16 P17, List.forall_mem_cons.mpr ⟨tb2.2, List.forall_mem_cons.mpr ⟨tb3.2, List.forall_mem_cons.mpr ⟨tb7.2, List.forall_mem_cons.mpr ⟨tb8.2, List.forall_mem_cons.mpr ⟨tb9.2, List.forall_mem_cons.mpr ⟨tb14.2, List.forall_mem_cons.mpr ⟨tb15.2, List.forall_mem_cons.mpr ⟨tb16.2, List.forall_mem_cons.mpr ⟨tb17.2, fun _ z => nomatch z⟩⟩⟩⟩⟩⟩⟩⟩⟩, List.forall_mem_cons.mpr ⟨nP2, List.forall_mem_cons.mpr ⟨nP3, List.forall_mem_cons.mpr ⟨nP7, List.forall_mem_cons.mpr ⟨nP8, List.forall_mem_cons.mpr ⟨nP9, List.forall_mem_cons.mpr ⟨nP14, List.forall_mem_cons.mpr ⟨nP15, List.forall_mem_cons.mpr ⟨nP16, List.forall_mem_cons.mpr ⟨nP17, fun _ z => nomatch z⟩⟩⟩⟩⟩⟩⟩⟩⟩, List.forall_mem_cons.mpr ⟨tb2.1, List.forall_mem_cons.mpr ⟨tb3.1, List.forall_mem_cons.mpr ⟨tb7.1, List.forall_mem_cons.mpr ⟨tb8.1, List.forall_mem_cons.mpr ⟨tb9.1, List.forall_mem_cons.mpr ⟨tb14.1, List.forall_mem_cons.mpr ⟨tb15.1, List.forall_mem_cons.mpr ⟨tb16.1, List.forall_mem_cons.mpr ⟨tb17.1, fun _ z => nomatch z⟩⟩⟩⟩⟩⟩⟩⟩⟩, fun s v => .of_eq rfl, fun H a ns hl _ hH hS => ?_, fun base _ _ TB => ?_⟩
  · have hT2 : GxR.TabG H P2 := ⟨#[], hH (c2, P2) (List.mem_cons_self ..), trivial⟩; have hT3 : GxR.TabG H P3 := ⟨#[], hH (c3, P3) (List.mem_cons_of_mem _ (List.mem_cons_self ..)), trivial⟩; have hT7 : GxR.TabG H P7 := ⟨#[], hH (c7, P7) (List.mem_cons_of_mem _ (List.mem_cons_of_mem _ (List.mem_cons_self ..))), trivial⟩; have hT8 : GxR.TabG H P8 := ⟨#[], hH (c8, P8) (List.mem_cons_of_mem _ (List.mem_cons_of_mem _ (List.mem_cons_of_mem _ (List.mem_cons_self ..)))), trivial⟩; have hT9 : GxR.TabG H P9 := ⟨#[], hH (c9, P9) (List.mem_cons_of_mem _ (List.mem_cons_of_mem _ (List.mem_cons_of_mem _ (List.mem_cons_of_mem _ (List.mem_cons_self ..))))), trivial⟩; have hT14 : GxR.TabG H P14 := ⟨#[], hH (c14, P14) (List.mem_cons_of_mem _ (List.mem_cons_of_mem _ (List.mem_cons_of_mem _ (List.mem_cons_of_mem _ (List.mem_cons_of_mem _ (List.mem_cons_self ..)))))), trivial⟩; have hT15 : GxR.TabG H P15 := ⟨#[], hH (c15, P15) (List.mem_cons_of_mem _ (List.mem_cons_of_mem _ (List.mem_cons_of_mem _ (List.mem_cons_of_mem _ (List.mem_cons_of_mem _ (List.mem_cons_of_mem _ (List.mem_cons_self ..))))))), trivial⟩; have hT16 : GxR.TabG H P16 := ⟨#[], hH (c16, P16) (List.mem_cons_of_mem _ (List.mem_cons_of_mem _ (List.mem_cons_of_mem _ (List.mem_cons_of_mem _ (List.mem_cons_of_mem _ (List.mem_cons_of_mem _ (List.mem_cons_of_mem _ (List.mem_cons_self ..)))))))), trivial⟩; have hT17 : GxR.TabG H P17 := ⟨#[], hH (c17, P17) (List.mem_cons_of_mem _ (List.mem_cons_of_mem _ (List.mem_cons_of_mem _ (List.mem_cons_of_mem _ (List.mem_cons_of_mem _ (List.mem_cons_of_mem _ (List.mem_cons_of_mem _ (List.mem_cons_of_mem _ (List.mem_cons_self ..))))))))), trivial⟩; exact ⟨a, ns, rfl, hS, hl, ⟨List.forall_mem_cons.mpr ⟨⟨_, hH (c2, P2) (by simp)⟩, List.forall_mem_cons.mpr ⟨⟨_, hH (c17, P17) (by simp)⟩, List.forall_mem_cons.mpr ⟨⟨_, hH (c3, P3) (by simp)⟩, List.forall_mem_cons.mpr ⟨⟨_, hH (c7, P7) (by simp)⟩, List.forall_mem_cons.mpr ⟨⟨_, hH (c8, P8) (by simp)⟩, List.forall_mem_cons.mpr ⟨⟨_, hH (c9, P9) (by simp)⟩, List.forall_mem_cons.mpr ⟨⟨_, hH (c14, P14) (by simp)⟩, List.forall_mem_cons.mpr ⟨⟨_, hH (c15, P15) (by simp)⟩, List.forall_mem_cons.mpr ⟨⟨_, hH (c16, P16) (by simp)⟩, (fun _ z => nomatch z)⟩⟩⟩⟩⟩⟩⟩⟩⟩, List.forall_mem_cons.mpr ⟨⟨GX.TabQ.nil (hH (c3, P3) (by simp)), by simp⟩, List.forall_mem_cons.mpr ⟨⟨GX.TabQ.nil (hH (c7, P7) (by simp)), by simp⟩, List.forall_mem_cons.mpr ⟨⟨GX.TabQ.nil (hH (c8, P8) (by simp)), by simp⟩, List.forall_mem_cons.mpr ⟨⟨GX.TabQ.nil (hH (c9, P9) (by simp)), by simp⟩, List.forall_mem_cons.mpr ⟨⟨GX.TabQ.nil (hH (c14, P14) (by simp)), by simp⟩, List.forall_mem_cons.mpr ⟨⟨GX.TabQ.nil (hH (c15, P15) (by simp)), by simp⟩, List.forall_mem_cons.mpr ⟨⟨GX.TabQ.nil (hH (c16, P16) (by simp)), by simp⟩, (fun _ z => nomatch z)⟩⟩⟩⟩⟩⟩⟩, List.forall_mem_cons.mpr ⟨⟨by simp, x_PP, LamX.TabS.nil (hH (c2, P2) (by simp))⟩, List.forall_mem_cons.mpr ⟨⟨by simp, x_PR, LamX.TabS.nil (hH (c17, P17) (by simp))⟩, (fun _ z => nomatch z)⟩⟩⟩, ⟨GX.Mq.mem.mpr (by simp), ⟨by simp, List.forall_mem_cons.mpr ⟨fun _ => rfl, List.forall_mem_cons.mpr ⟨fun e => absurd e x_QQ, (fun _ z => nomatch z)⟩⟩⟩, ⟨GX.Mq.mem.mpr (by simp), GX.Mq.mem.mpr (by simp), GX.Mq.mem.mpr (by simp), GX.Mq.mem.mpr (by simp), GX.Mq.mem.mpr (by simp), GX.Mq.mem.mpr (by simp)⟩⟩, by simp, fun _ => rfl⟩
  · have g := fun {x : Str} {f : Addr} (a : PySem.W.nsIn K mainGlobals x = some (some (.ref f))) => PySem.W.mg_of X G a
    have T2 : GxR.TabB base mg c2 P2 := let t := TB (c2, P2) (List.mem_cons_self ..); ⟨t.code, t.bm, t.gP⟩
    have T3 : GxR.TabB base mg c3 P3 := let t := TB (c3, P3) (List.mem_cons_of_mem _ (List.mem_cons_self ..)); ⟨t.code, t.bm, t.gP⟩
    have T7 : GxR.TabB base mg c7 P7 := let t := TB (c7, P7) (List.mem_cons_of_mem _ (List.mem_cons_of_mem _ (List.mem_cons_self ..))); ⟨t.code, t.bm, t.gP⟩
    have T8 : GxR.TabB base mg c8 P8 := let t := TB (c8, P8) (List.mem_cons_of_mem _ (List.mem_cons_of_mem _ (List.mem_cons_of_mem _ (List.mem_cons_self ..)))); ⟨t.code, t.bm, t.gP⟩
    have T9 : GxR.TabB base mg c9 P9 := let t := TB (c9, P9) (List.mem_cons_of_mem _ (List.mem_cons_of_mem _ (List.mem_cons_of_mem _ (List.mem_cons_of_mem _ (List.mem_cons_self ..))))); ⟨t.code, t.bm, t.gP⟩
    have T14 : GxR.TabB base mg c14 P14 := let t := TB (c14, P14) (List.mem_cons_of_mem _ (List.mem_cons_of_mem _ (List.mem_cons_of_mem _ (List.mem_cons_of_mem _ (List.mem_cons_of_mem _ (List.mem_cons_self ..)))))); ⟨t.code, t.bm, t.gP⟩
    have T15 : GxR.TabB base mg c15 P15 := let t := TB (c15, P15) (List.mem_cons_of_mem _ (List.mem_cons_of_mem _ (List.mem_cons_of_mem _ (List.mem_cons_of_mem _ (List.mem_cons_of_mem _ (List.mem_cons_of_mem _ (List.mem_cons_self ..))))))); ⟨t.code, t.bm, t.gP⟩
    have T16 : GxR.TabB base mg c16 P16 := let t := TB (c16, P16) (List.mem_cons_of_mem _ (List.mem_cons_of_mem _ (List.mem_cons_of_mem _ (List.mem_cons_of_mem _ (List.mem_cons_of_mem _ (List.mem_cons_of_mem _ (List.mem_cons_of_mem _ (List.mem_cons_self ..)))))))); ⟨t.code, t.bm, t.gP⟩
    have T17 : GxR.TabB base mg c17 P17 := let t := TB (c17, P17) (List.mem_cons_of_mem _ (List.mem_cons_of_mem _ (List.mem_cons_of_mem _ (List.mem_cons_of_mem _ (List.mem_cons_of_mem _ (List.mem_cons_of_mem _ (List.mem_cons_of_mem _ (List.mem_cons_of_mem _ (List.mem_cons_self ..))))))))); ⟨t.code, t.bm, t.gP⟩
    have CT : Cal l.prog w K mg base 1 "_law_take" ["_law_state", "_law_many"] spTake := ⟨_, _, ok_take F19 m_len m_divmod, g a19, k19, b19⟩
    have CB : Cal l.prog w K mg base 1 "_law_begin" ["_law_script"] (spBegin K) := ⟨_, _, ok_begin F18 m_list, g a18, k18, b18⟩
    have FB : Cal l.prog w K mg base 1 "furthest_back" ["many", "runs"] (spBacks K) := ⟨_, _, ok_Backs F0 m_max m_range, g a0, k0, b0⟩
    have LP : Cal l.prog w K mg base 2 "least_places" ["prices", "runs"] (spPlaces K) := ⟨_, _, ok_Places F1 FB m_len m_enumerate m_range m_min, g a1, k1, b1⟩
    have MD : Cal l.prog w K mg base 4 "most_dues" ["prices", "runs"] (spDues K P2) := ⟨_, _, ok_Dues l2 c2' ⟨T2.code, T2.bm, T2.gP⟩ m_list m_len m_sorted m_range m_min, g a2, k2, b2⟩
    have LC : Cal l.prog w K mg base 5 "least_cost" ["prices", "runs"] (spCost K ⟨[P3, P7, P8, P9, P14, P15, P16], [(P2, qD), (P17, qL)]⟩ [P2, P17, P3, P7, P8, P9, P14, P15, P16] P3 P2) := ⟨_, _, ok_Cost l3 c3' ⟨T3.code, T3.bm, T3.gP⟩ LP MD m_sum, g a3, k3, b3⟩
    have IR : Cal l.prog w K mg base 1 "is_row" ["thing"] spIsRow := ⟨_, _, ok_IsRow F4 m_tuple m_list m_isinstance, g a4, k4, b4⟩
    have IT : Cal l.prog w K mg base 1 "is_tuple_of" ["thing", "many"] spTupOf := ⟨_, _, ok_TupOf F5 m_isinstance m_tuple m_len, g a5, k5, b5⟩
    have IN : Cal l.prog w K mg base 1 "is_number" ["thing"] spIsNum := ⟨_, _, ok_IsNum F6 m_isinstance m_int m_bool, g a6, k6, b6⟩
    have NU : Cal l.prog w K mg base 5 "are_numbers" ["thing"] (spNums K ⟨[P3, P7, P8, P9, P14, P15, P16], [(P2, qD), (P17, qL)]⟩ [P2, P17, P3, P7, P8, P9, P14, P15, P16] P7) := ⟨_, _, ok_Nums l7 c7' ⟨T7.code, T7.bm, T7.gP⟩ IR IN m_all, g a7, k7, b7⟩
    have RS : Cal l.prog w K mg base 6 "are_rising" ["thing"] (spRising K ⟨[P3, P7, P8, P9, P14, P15, P16], [(P2, qD), (P17, qL)]⟩ [P2, P17, P3, P7, P8, P9, P14, P15, P16] P7 P8) := ⟨_, _, ok_Rising l8 c8' ⟨T8.code, T8.bm, T8.gP⟩ NU m_all m_zip, g a8, k8, b8⟩
    have BE : Cal l.prog w K mg base 7 "are_rising_below" ["thing", "many"] (spBelow K ⟨[P3, P7, P8, P9, P14, P15, P16], [(P2, qD), (P17, qL)]⟩ [P2, P17, P3, P7, P8, P9, P14, P15, P16] P7 P8 P9) := ⟨_, _, ok_Below l9 c9' ⟨T9.code, T9.bm, T9.gP⟩ RS m_all, g a9, k9, b9⟩
    have EA : Cal l.prog w K mg base 8 "each_has_one" ["runs", "numbers"] (spEach K ⟨[P3, P7, P8, P9, P14, P15, P16], [(P2, qD), (P17, qL)]⟩ [P2, P17, P3, P7, P8, P9, P14, P15, P16] P14) := ⟨_, _, ok_Each l14 c14' ⟨T14.code, T14.bm, T14.gP⟩ m_all m_any, g a14, k14, b14⟩
    have PY : Cal l.prog w K mg base 5 "are_payable" ["prices", "runs", "dues"] (spPay K ⟨[P3, P7, P8, P9, P14, P15, P16], [(P2, qD), (P17, qL)]⟩ [P2, P17, P3, P7, P8, P9, P14, P15, P16] P15) := ⟨_, _, ok_Pay l15 c15' ⟨T15.code, T15.bm, T15.gP⟩ m_enumerate m_sum m_zip, g a15, k15, b15⟩
    have SH : Cal l.prog w K mg base 9 "shows_cost" ["prices", "runs", "told"] (spShows K ⟨[P3, P7, P8, P9, P14, P15, P16], [(P2, qD), (P17, qL)]⟩ [P2, P17, P3, P7, P8, P9, P14, P15, P16] P7 P8 P9 P14 P15 P16) := ⟨_, _, ok_Shows l16 c16' ⟨T16.code, T16.bm, T16.gP⟩ IT IN BE NU EA PY m_len m_sum, g a16, k16, b16⟩
    have GR : Cal l.prog w K mg base 2 "_law_great" ["_law_state"] spGreat := ⟨_, _, ok_great F20 CT m_range, g a20, k20, b20⟩
    have RU : Cal l.prog w K mg base 2 "_law_runs" ["_law_state", "_law_many", "_law_most", "_law_wide"] spRuns := ⟨_, _, ok_Runs F21 CT m_range m_min m_len, g a21, k21, b21⟩
    have PR : Cal l.prog w K mg base 3 "_law_prices" ["_law_state", "_law_many"] spPrices := ⟨_, _, ok_Prices F22 CT GR m_range, g a22, k22, b22⟩
    have CA : Cal l.prog w K mg base 4 "_law_price_case" ["_law_state", "_law_many", "_law_most"] spCase := ⟨_, _, ok_Case F23 CT PR RU, g a23, k23, b23⟩
    have LN : Cal l.prog w K mg base 1 "_law_is_number" ["_law_thing"] spIsNum := ⟨_, _, ok_LNum F24 m_isinstance m_int m_bool, g a24, k24, b24⟩
    have SW : Cal l.prog w K mg base 2 "_law_cost_shown" ["_law_prices_here", "_law_runs_here", "_law_told"] (spShown K) := ⟨_, _, ok_Shown F25 LN m_isinstance m_tuple m_len m_list m_all m_zip m_any m_sum m_range m_min, g a25, k25, b25⟩
    have SO : Cal l.prog w K mg base 1 "set_of" ["pairs"] (spSetOf K) := ⟨_, _, ok_setof F10 m_sorted m_max, g a10, k10, b10⟩
    have BO : Cal l.prog w K mg base 1 "both_of" ["one", "other"] (spBoth K) := ⟨_, _, ok_both F11 m_len m_max m_min, g a11, k11, b11⟩
    have GA : Cal l.prog w K mg base 2 "gaps_of" ["some", "begin", "end"] (spGaps K) := ⟨_, _, ok_gaps F12 SO m_max m_min, g a12, k12, b12⟩
    have WI : Cal l.prog w K mg base 3 "without" ["one", "other"] (spWithout K) := ⟨_, _, ok_without F13 BO GA, g a13, k13, b13⟩
    have LS : Cal l.prog w K mg base 4 "least_samples" ["runs", "gone"] (spLeast K P17) := ⟨_, _, ok_Least l17 c17' ⟨T17.code, T17.bm, T17.gP⟩ WI m_sorted m_range m_len, g a17, k17, b17⟩
    have LO : Cal l.prog w K mg base 10 "_law_cost" ["_law_prices_here", "_law_runs_here"] (spLCost K ⟨[P3, P7, P8, P9, P14, P15, P16], [(P2, qD), (P17, qL)]⟩ [P2, P17, P3, P7, P8, P9, P14, P15, P16] P3 P2 P7 P8 P9 P14 P15 P16) := ⟨_, _, ok_LCost F26 LC SW SH m_list, g a26, k26, b26⟩
    have OR : Cal l.prog w K mg base 2 "_law_ordered" ["_law_state", "_law_runs_here"] spOrdered := ⟨_, _, ok_Ordered F27 CT m_len, g a27, k27, b27⟩
    have SR : Cal l.prog w K mg base 11 "_law_same_right" ["_law_state", "_law_prices_here", "_law_runs_here", "_law_due"] (spSameR K ⟨[P3, P7, P8, P9, P14, P15, P16], [(P2, qD), (P17, qL)]⟩ [P2, P17, P3, P7, P8, P9, P14, P15, P16] P3 P2 P7 P8 P9 P14 P15 P16) := ⟨_, _, ok_SameR F28 LO OR CT PR m_len, g a28, k28, b28⟩
    have MR : Cal l.prog w K mg base 11 "_law_more_right" ["_law_state", "_law_prices_here", "_law_runs_here", "_law_due"] (spMoreR K ⟨[P3, P7, P8, P9, P14, P15, P16], [(P2, qD), (P17, qL)]⟩ [P2, P17, P3, P7, P8, P9, P14, P15, P16] P3 P2 P7 P8 P9 P14 P15 P16) := ⟨_, _, ok_MoreR F29 CT LO GR m_len m_min m_list, g a29, k29, b29⟩
    exact ok_Law F30 CB CA LO SR MR LS m_len m_list
end TK
open PySem PySem.W PyProof.Rows
set_option maxHeartbeats 0 in
theorem PySem.Challenge.cw_tinrecall_k45_costs_put_otherwise_holds : PySem.Challenge.rw_tinrecall_k45_costs_put_otherwise.Holds := by
  w_on; o_law; k_head; (case hw => w_witness2)
  k_fill
  refine TK.law_end (l := PySem.Challenge.rw_tinrecall_k45_costs_put_otherwise) (k := 12) rfl rfl ⟨rfl, by decide, by decide⟩ (fun w h Y => PySem.W.km_in_of Y) ?made
  case made =>
    intro w mg f h KX G hmg TT
    refine' TK.all_mk KX G hmg TT ?a0 ?l0 ?c0 ?k0 ?a1 ?l1 ?c1 ?k1 ?a2 ?l2 ?c2 ?k2 ?a3 ?l3 ?c3 ?k3 ?a4 ?l4 ?c4 ?k4 ?a5 ?l5 ?c5 ?k5 ?a6 ?l6 ?c6 ?k6 ?a7 ?l7 ?c7 ?k7 ?a8 ?l8 ?c8 ?k8 ?a9 ?l9 ?c9 ?k9 ?a10 ?l10 ?c10 ?k10 ?a11 ?l11 ?c11 ?k11 ?a12 ?l12 ?c12 ?k12 ?a13 ?l13 ?c13 ?k13 ?a14 ?l14 ?c14 ?k14 ?a15 ?l15 ?c15 ?k15 ?a16 ?l16 ?c16 ?k16 ?a17 ?l17 ?c17 ?k17 ?a18 ?l18 ?c18 ?k18 ?a19 ?l19 ?c19 ?k19 ?a20 ?l20 ?c20 ?k20 ?a21 ?l21 ?c21 ?k21 ?a22 ?l22 ?c22 ?k22 ?a23 ?l23 ?c23 ?k23 ?a24 ?l24 ?c24 ?k24 ?a25 ?l25 ?c25 ?k25 ?a26 ?l26 ?c26 ?k26 ?a27 ?l27 ?c27 ?k27 ?a28 ?l28 ?c28 ?k28 ?a29 ?l29 ?c29 ?k29 ?a30 ?l30 ?c30 ?k30 ?lc2 ?v2 ?nP2 ?r2 ?lc3 ?v3 ?nP3 ?r3 ?lc7 ?v7 ?nP7 ?r7 ?lc8 ?v8 ?nP8 ?r8 ?lc9 ?v9 ?nP9 ?r9 ?lc14 ?v14 ?nP14 ?r14 ?lc15 ?v15 ?nP15 ?r15 ?lc16 ?v16 ?nP16 ?r16 ?lc17 ?v17 ?nP17 ?r17 ?x_PP ?x_PR ?x_QQ ?z_all ?z_any ?z_bool ?z_divmod ?z_enumerate ?z_int ?z_isinstance ?z_len ?z_list ?z_max ?z_min ?z_range ?z_sorted ?z_sum ?z_tuple ?z_zip
    (case a0 => k_is); (case l0 => k_is); (case c0 => k_is); (case k0 => k_is)
    (case a1 => k_is); (case l1 => k_is); (case c1 => k_is); (case k1 => k_is)
    (case a2 => k_is); (case l2 => k_is); (case c2 => k_is); (case k2 => k_is)
    (case a3 => k_is); (case l3 => k_is); (case c3 => k_is); (case k3 => k_is)
    (case a4 => k_is); (case l4 => k_is); (case c4 => k_is); (case k4 => k_is)
    (case a5 => k_is); (case l5 => k_is); (case c5 => k_is); (case k5 => k_is)
    (case a6 => k_is); (case l6 => k_is); (case c6 => k_is); (case k6 => k_is)
    (case a7 => k_is); (case l7 => k_is); (case c7 => k_is); (case k7 => k_is)
    (case a8 => k_is); (case l8 => k_is); (case c8 => k_is); (case k8 => k_is)
    (case a9 => k_is); (case l9 => k_is); (case c9 => k_is); (case k9 => k_is)
    (case a10 => k_is); (case l10 => k_is); (case c10 => k_is); (case k10 => k_is)
    (case a11 => k_is); (case l11 => k_is); (case c11 => k_is); (case k11 => k_is)
    (case a12 => k_is); (case l12 => k_is); (case c12 => k_is); (case k12 => k_is)
    (case a13 => k_is); (case l13 => k_is); (case c13 => k_is); (case k13 => k_is)
    (case a14 => k_is); (case l14 => k_is); (case c14 => k_is); (case k14 => k_is)
    (case a15 => k_is); (case l15 => k_is); (case c15 => k_is); (case k15 => k_is)
    (case a16 => k_is); (case l16 => k_is); (case c16 => k_is); (case k16 => k_is)
    (case a17 => k_is); (case l17 => k_is); (case c17 => k_is); (case k17 => k_is)
    (case a18 => k_is); (case l18 => k_is); (case c18 => k_is); (case k18 => k_is)
    (case a19 => k_is); (case l19 => k_is); (case c19 => k_is); (case k19 => k_is)
    (case a20 => k_is); (case l20 => k_is); (case c20 => k_is); (case k20 => k_is)
    (case a21 => k_is); (case l21 => k_is); (case c21 => k_is); (case k21 => k_is)
    (case a22 => k_is); (case l22 => k_is); (case c22 => k_is); (case k22 => k_is)
    (case a23 => k_is); (case l23 => k_is); (case c23 => k_is); (case k23 => k_is)
    (case a24 => k_is); (case l24 => k_is); (case c24 => k_is); (case k24 => k_is)
    (case a25 => k_is); (case l25 => k_is); (case c25 => k_is); (case k25 => k_is)
    (case a26 => k_is); (case l26 => k_is); (case c26 => k_is); (case k26 => k_is)
    (case a27 => k_is); (case l27 => k_is); (case c27 => k_is); (case k27 => k_is)
    (case a28 => k_is); (case l28 => k_is); (case c28 => k_is); (case k28 => k_is)
    (case a29 => k_is); (case l29 => k_is); (case c29 => k_is); (case k29 => k_is)
    (case a30 => k_is); (case l30 => k_is); (case c30 => k_is); (case k30 => k_is)
    (case lc2 => k_is); (case v2 => exact rfl); (case nP2 => exact rfl); (case r2 => decide +kernel)
    (case lc3 => k_is); (case v3 => exact rfl); (case nP3 => exact rfl); (case r3 => decide +kernel)
    (case lc7 => k_is); (case v7 => exact rfl); (case nP7 => exact rfl); (case r7 => decide +kernel)
    (case lc8 => k_is); (case v8 => exact rfl); (case nP8 => exact rfl); (case r8 => decide +kernel)
    (case lc9 => k_is); (case v9 => exact rfl); (case nP9 => exact rfl); (case r9 => decide +kernel)
    (case lc14 => k_is); (case v14 => exact rfl); (case nP14 => exact rfl); (case r14 => decide +kernel)
    (case lc15 => k_is); (case v15 => exact rfl); (case nP15 => exact rfl); (case r15 => decide +kernel)
    (case lc16 => k_is); (case v16 => exact rfl); (case nP16 => exact rfl); (case r16 => decide +kernel)
    (case lc17 => k_is); (case v17 => exact rfl); (case nP17 => exact rfl); (case r17 => decide +kernel)
    (case x_PP => decide)
    (case x_PR => decide)
    (case x_QQ => decide)
    (case z_all => k_is); (case z_any => k_is); (case z_bool => k_is); (case z_divmod => k_is); (case z_enumerate => k_is); (case z_int => k_is); (case z_isinstance => k_is); (case z_len => k_is); (case z_list => k_is); (case z_max => k_is); (case z_min => k_is); (case z_range => k_is); (case z_sorted => k_is); (case z_sum => k_is); (case z_tuple => k_is); (case z_zip => k_is)

