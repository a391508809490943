import PyProof.Rows.All
import Wide.All
import OpenK.AllK
import Wide.FinOn
import HandS.ForMost
import HandS.WideBits
import HandS.IsInst
import HandS.Style
import HandS.AnyAll
import HandS.Nested
import HandS.Walk
import HandS.Evl
import HandS.EndTab
import HandS.SortInts
import HandS.SortRule
import HandS.Conv
import HandS.Star
import HandS.Codes
import HandS.Wide
import HandS.Zip
import HandS.DictComp
import HandS.SetFor
import HandS.SetKeys
import HandS.StrMore
import HandS.Replace
import PyProof.ReprRoads
import PyProof.ReprLen
import HandS.Small
import HandS.More
import KE.KDictPairs
import KE.GoesMore
import KE.GoesEnum
import PyProof.SumAny
import PyProof.WalksPairs
import PyProof.GenCompT
import HandS.Lambda
import KE.SortKeyHeap
import HandS.Sort
import HandS.Conv
import HandS.ExcValue
import HandS.ExcOwn
import KE.DataMinMax
import KE.SortData
import KE.GoesEnumKw
import HandS.SortKw
import HandS.Deep
import PySem.Challenge.RW_tinrecall_k44_least_costs_by_trying
set_option Elab.async false
set_option linter.all false
set_option maxRecDepth 100000
set_option maxHeartbeats 5000000
/-! ## sum(.. for a, b in ..): a generator expression over a list or a tuple of pairs of whole numbers -/
namespace GP
open PySem PySem.Spec PyProof.Rows L2 GxR

/-- a walk whose items are tuples that stand still -/
theorem asTuples {prog : Program} {w : World} {A : Around} {it : Addr} {foot : List Addr} {n : Nat} {Item : Nat → Value → Prop} {At : Nat → Heap → Prop} (W : Walks prog w A it foot [it] n Item At) (loc : Nat → Addr) (held : Nat → Array Value)
    (isT : ∀ j v, j < n → Item j v → v = .ref (loc j)) (apt : ∀ j, j < n → loc j ≠ it)
    (letGo : ∀ (es : List Expr) (k : Nat) (pos : Pos) (j : Nat) (T : Addr) (s : Shared) (Q : Unit → Shared → Prop) (E : Value → Shared → Prop), At j s.heap → Q () s → wpAny (model prog w) A (letOwnedTupleGo (.Tuple es k pos) (.ref it) (.ref T)) Q E s) :
    WalksU prog w A it (foot ++ (List.range n).map loc) [it] n (fun j xs => xs = held j) (fun j h => At j h ∧ ∀ m, m < n → h.IsTuple (loc m) (held m))
      (fun j T h => (j < n ∧ T = loc j) ∧ At (j + 1) h ∧ ∀ m, m < n → h.IsTuple (loc m) (held m)) := by
  have inFoot : ∀ m, m < n → loc m ∈ foot ++ (List.range n).map loc := fun m hm => List.mem_append.mpr (.inr (List.mem_map.mpr ⟨m, List.mem_range.mpr hm, rfl⟩))
  constructor
  case sub => exact fun b hb => List.mem_append.mpr (.inl (W.sub b hb))
  case frame =>
    intro j h h' ⟨a1, a2⟩ kept
    refine ⟨W.frame j h h' a1 fun b hb => kept b (List.mem_append.mpr (.inl hb)), fun m hm => ?_⟩
    obtain ⟨o, e, r⟩ := a2 m hm
    exact ⟨o, kept _ (inFoot m hm) o e, r⟩
  case item =>
    intro j s Q E hj ⟨a1, a2⟩ fin
    refine W.item j s Q E hj a1 fun v h' tk hv a1' kept => ?_
    have still : ∀ m, m < n → h'.IsTuple (loc m) (held m) := fun m hm => by
      obtain ⟨o, e, r⟩ := a2 m hm
      exact ⟨o, kept _ o (fun z => apt m hm (List.mem_singleton.mp z)) e, r⟩
    rw [isT j v hj hv]
    exact fin (loc j) (held j) h' tk rfl (still j hj) ⟨⟨hj, rfl⟩, a1', still⟩ kept
  case go =>
    intro es k pos j T s Q E hm fin
    exact letGo es k pos (j + 1) T s Q E hm.2.1 (fin s.heap hm.2 fun _ _ _ e => e)
  case apart =>
    intro j T h hm z
    rw [hm.1.2] at z
    exact apt j hm.1.1 (List.mem_singleton.mp z)
  case done => exact fun s Q E a fin => W.done s Q E a.1 fin
  case self => exact fun j s Q E a fin => W.self j s Q E a.1 fin

/-- the values vs are tuples that hold the pairs ps -/
def Prs (H : Hp) (vs : List V) (ps : List (Int × Int)) : Prop := vs.length = ps.length ∧ ∀ (i : Nat) p, ps[i]? = some p → ∃ a, vs[i]? = some (.ref a) ∧ H a = some (.tup [.int p.1, .int p.2])

/-- what is asked of the expression's own scope: the two names are its locals, its captured names are the def's -/
def OwnScope (env : Env) (sc : Scope) (xa xb : Str) : Prop :=
  (sc.kind = .function ∧ sc.isCoroutine = false ∧ xa ≠ xb) ∧ (sc.names.lookup (".0" : Str) = some .local ∧ sc.names.lookup xa = some .local ∧ sc.names.lookup xb = some .local) ∧
  (∀ y ∈ sc.names, y.2 ≠ NameKind.cell) ∧ ∀ y ∈ sc.names, y.2 = NameKind.free → ∃ c, env.cells.lookup y.1 = some c

section
variable {X : Cx} {s : Shared} {H : Hp} {σ : L2.St} {pins : List (Addr × Obj)}
/-- a tracked pair in the machine's heap -/
theorem pair_in {T : Addr} {p : Int × Int} (I : Inv X pins σ H s) (e : H T = some (.tup [.int p.1, .int p.2])) : ∃ ta tb, s.heap.IsTuple T #[.int p.1 ta, .int p.2 tb] := by
  obtain ⟨_, its, r, t⟩ := I.hok T _ e
  cases r with
  | cons q1 r =>
    cases r with
    | cons q2 r =>
      cases r
      obtain ⟨ta, rfl⟩ := q1
      obtain ⟨tb, rfl⟩ := q2
      exact ⟨ta, tb, t⟩
/-- the pairs by place: where they stand and what they hold -/
theorem pairs_in {vs : List V} {ps : List (Int × Int)} {its : List Value} (I : Inv X pins σ H s) (hp : Prs H vs ps) (r : Vals vs its) :
    ∃ (loc : Nat → Addr) (held : Nat → Array Value), ∀ j, j < ps.length → its[j]? = some (.ref (loc j)) ∧ s.heap.IsTuple (loc j) (held j) ∧ ∃ p ta tb, ps[j]? = some p ∧ held j = #[.int p.1 ta, .int p.2 tb] := by
  have one : ∀ j, ∃ (T : Addr) (xs : Array Value), j < ps.length → its[j]? = some (.ref T) ∧ s.heap.IsTuple T xs ∧ ∃ p ta tb, ps[j]? = some p ∧ xs = #[.int p.1 ta, .int p.2 tb] := fun j => by
    by_cases hj : j < ps.length
    · obtain ⟨T, e1, e2⟩ := hp.2 j ps[j] (List.getElem?_eq_getElem hj)
      obtain ⟨u, eu, ru⟩ := r.get e1
      cases ru
      obtain ⟨ta, tb, t⟩ := pair_in I e2
      exact ⟨T, _, fun _ => ⟨eu, t, ps[j], ta, tb, List.getElem?_eq_getElem hj, rfl⟩⟩
    · exact ⟨0, #[], fun z => absurd z hj⟩
  exact ⟨fun j => (one j).choose, fun j => (one j).choose_spec.choose, fun j hj => (one j).choose_spec.choose_spec hj⟩

/-- what a walk over the pairs is, begun at the new iterator that o is -/
def Begun (X : Cx) (s : Shared) (P : Addr) (ps : List (Int × Int)) (o : Obj) : Prop :=
  ∃ (foot : List Addr) (Hold : Nat → Array Value → Prop) (At : Nat → Heap → Prop) (Mid : Nat → Addr → Heap → Prop),
    (∀ A' : Around, A'.handled = none → WalksU X.prog X.w A' s.heap.objs.size foot [s.heap.objs.size] ps.length (fun j xs => j < ps.length ∧ Hold j xs) At Mid) ∧
    (∀ j xs, j < ps.length → Hold j xs → ∃ p ta tb, ps[j]? = some p ∧ xs = #[.int p.1 ta, .int p.2 tb]) ∧ At 0 (s.heap.push o) ∧ ∀ b ∈ foot, b < s.heap.objs.size + 1 ∧ b ≠ P
theorem begin_pairs {a P : Addr} {vs : List V} {ps : List (Int × Int)} {tb : Array Value} {Q' : Value → Shared → Prop} (I : Inv X pins σ H s) (hS : SqL X.K H a vs ∨ SqT X.K H a vs) (hp : Prs H vs ps) (hP : H P = some (.tbl tb))
    (fin : ∀ o, Begun X s P ps o → Q' (.ref s.heap.objs.size) { s with heap := s.heap.push o }) : wpAny (model X.prog X.w) X.A (pyIter (.ref a)) Q' X.xe s := by
  have hPo : s.heap.get? P = some { cls := .none, data := .fields tb } := I.hok P _ hP
  have notP : ∀ (b : Addr) (o : Obj) (xs : Array Value) (n : Nat), s.heap.get? b = some o → o.data = .seq xs n → b ≠ P := fun b o xs n e d z => by
    rw [z, hPo] at e
    rw [← Option.some.inj e] at d
    cases d
  have newP : s.heap.objs.size ≠ P := fun z => Nat.lt_irrefl _ (Nat.lt_of_lt_of_eq (Heap.lt_size hPo) z)
  -- from a walk over the items to the pairs
  have mk : ∀ (its : List Value) (o : Obj) (At : Nat → Heap → Prop), Vals vs its → a < s.heap.objs.size → a ≠ P → At 0 (s.heap.push o) →
      (∀ A' : Around, A'.handled = none → Walks X.prog X.w A' s.heap.objs.size [s.heap.objs.size, a] [s.heap.objs.size] its.toArray.size (fun i v => its.toArray[i]? = some v) At) →
      (∀ (A' : Around) (es : List Expr) (k : Nat) (pos : Pos) (j : Nat) (T : Addr) (s' : Shared) (Q : Unit → Shared → Prop) (E : Value → Shared → Prop), At j s'.heap → Q () s' → wpAny (model X.prog X.w) A' (letOwnedTupleGo (.Tuple es k pos) (.ref s.heap.objs.size) (.ref T)) Q E s') →
      Begun X s P ps o := by
    intro its o At r ha haP a0 W go
    obtain ⟨loc, held, hl⟩ := pairs_in I hp r
    have ln : its.toArray.size = ps.length := by rw [List.size_toArray, ← r.length, hp.1]
    have below : ∀ m, m < ps.length → loc m < s.heap.objs.size ∧ loc m ≠ P := fun m hm => by
      obtain ⟨_, ⟨ob, e, _, n, d⟩, _⟩ := hl m hm
      exact ⟨Heap.lt_size e, notP _ _ _ _ e d⟩
    refine ⟨_, _, _, _, fun A' hA => (asTuples (ln ▸ W A' hA) loc held (fun j v hj e => ?_) (fun j hj => Nat.ne_of_lt (below j hj).1) (fun es k pos j T s' Q E => go A' es k pos j T s' Q E)).bound, fun j xs hj e => ?_, ⟨a0, fun m hm => ?_⟩, fun b hb => ?_⟩
    · have e2 : its[j]? = some v := by simpa using e
      rw [(hl j hj).1] at e2
      exact (Option.some.inj e2).symm
    · obtain ⟨_, _, p, ta, tb', e1, e2⟩ := hl j hj
      exact ⟨p, ta, tb', e1, (show xs = held j from e).trans e2⟩
    · obtain ⟨_, ⟨ob, e, rest⟩, _⟩ := hl m hm
      exact ⟨ob, Heap.get?_push_of_some _ e, rest⟩
    · rcases List.mem_append.mp hb with z | z
      · rcases List.mem_cons.mp z with e | e
        · rw [e]; exact ⟨Nat.lt_succ_self _, newP⟩
        · rw [List.mem_singleton.mp e]; exact ⟨Nat.lt_succ_of_lt ha, haP⟩
      · obtain ⟨m, hm, e⟩ := List.mem_map.mp z
        obtain ⟨h1, h2⟩ := below m (List.mem_range.mp hm)
        rw [← e]; exact ⟨Nat.lt_succ_of_lt h1, h2⟩
  rcases hS with hS | hS
  · obtain ⟨its, r, hl, _⟩ := I.list hS
    obtain ⟨o, e, c, n, d⟩ := hl.isList
    refine wpAny_pyIter_list hl.isList (fin _ (mk its _ _ r (Heap.lt_size e) (notP _ _ _ _ e d) ⟨⟨_, Heap.get?_push_size _ rfl, rfl, rfl⟩, ⟨o, Heap.get?_push_of_some _ e, c, n, d⟩⟩ (fun A' hA => Walks.list hA _ a (Nat.ne_of_lt (Heap.lt_size e)) its.toArray) ?_))
    exact fun A' es k pos j T s' Q E at_ q => wpAny_letOwnedTupleGo_listiter at_.1 q
  · obtain ⟨its, r, ⟨o, e, c, n, d⟩, _⟩ := I.tuple hS
    refine wpAny_pyIter_tuple (items := its.toArray) ⟨o, e, c, n, d⟩ (fin _ (mk its _ _ r (Heap.lt_size e) (notP _ _ _ _ e d) ⟨⟨_, Heap.get?_push_size _ rfl, rfl, rfl⟩, ⟨o, Heap.get?_push_of_some _ e, c, n, d⟩⟩ (fun A' hA => Walks.tuple hA _ a (Nat.ne_of_lt (Heap.lt_size e)) its.toArray) ?_))
    exact fun A' es k pos j T s' Q E at_ q => letGo_tupleiter at_.1 q

/-- the expression's code object is made, or found: the table may grow, all else stands -/
theorem code_there {c P : Addr} {gpos : Pos} {qual : Str} {sc : Scope} {tb : Array Value} {Q' : Value → Shared → Prop} {E : Value → Shared → Prop} (hcode : X.env.code = .ref c) (C : PySem.W.CodeHd s.heap c P) (hP : s.heap.get? P = some { cls := .none, data := .fields tb }) (ok : TriplesOk tb.toList)
    (fin : ∀ (code : Value) (h' : Heap) (tk : Nat) (more : Array Value), Heap.ExtBut P s.heap h' → s.heap.objs.size ≤ h'.objs.size → h'.get? P = some { cls := .none, data := .fields (tb ++ more) } → TriplesOk (tb ++ more).toList → Q' code { s with heap := h', toks := tk }) :
    wpAny (model X.prog X.w) X.A (genexprCode X.env gpos qual sc) Q' E s := by
  cases found : codeAmong gpos tb.toList with
  | some old =>
    refine wpAny_genexprCode_hit hcode (C.code hP ok) found ?_
    have e : tb ++ #[] = tb := by simp
    exact fin old s.heap s.toks #[] (Heap.ExtBut.refl _ _) (Nat.le_refl _) (by rw [e]; exact hP) (by rw [e]; exact ok)
  | none =>
    refine wpAny_genexprCodeX hcode (C.code hP ok) (C.tab hP) found fun c' h' tk ext le lt isC _ tab _ => ?_
    obtain ⟨_, _, _, _, _, _, _, _, _, _, _, _, _, _, _, _, _, _, _, okT, _⟩ := isC
    exact fin _ h' tk _ ext (Nat.le_trans le (Nat.le_of_lt lt)) tab.2 okT

/-- the element at a pair of whole numbers: what it gives, wherever the expression runs later -/
def EltAt (X : Cx) (s₁ : Shared) (P : Addr) (sc : Scope) (xa xb : Str) (elt : Expr) (Gives : Int → Int → Value → Prop) : Prop :=
  ∀ (L : Addr) (code : Value) (A' : Around) (E' : Value → Shared → Prop) (a b : Int) (ta tb : Tok) (s₂ : Shared) (m : Str → Option Value), A'.handled = none →
    (∀ x o, x ≠ P → s₁.heap.get? x = some o → s₂.heap.get? x = some o) → s₂.heap.Ns L m → m xa = some (.int a ta) → m xb = some (.int b tb) →
    wpAny (model X.prog X.w) A' (eval elt (genEnv sc (cloFrom X.env.cells sc.names []) L code builtinsNs X.env)) (fun y s₃ => Gives a b y ∧ Keeps s₂ s₃) E' s₂

/-- the generator at g, in the state s₅, before its first item; H₁: what was held when it was made -/
def Fresh (X : Cx) (pins : List (Addr × Obj)) (σ : L2.St) (H₁ : Hp) (P : Addr) (ps : List (Int × Int)) (Gives : Int → Int → Value → Prop) (g : Addr) (s₅ : Shared) : Prop :=
  ∃ (foot writes : List Addr) (Gens : Array GenState → Array GenState → Prop) (Item : Nat → Value → Prop) (At : Nat → Shared → Prop),
    (WalksS X.prog X.w X.A.in1 g foot writes Gens ps.length Item At ∧ At 0 s₅ ∧ ∀ b ∈ foot, b < s₅.heap.objs.size) ∧
    (∀ j v, Item j v → ∃ p, ps[j]? = some p ∧ Gives p.1 p.2 v) ∧ ∀ s₆, Moved writes Gens s₅ s₆ → ∃ H₂, Tabbed P H₁ H₂ ∧ Inv X pins σ H₂ s₆

theorem gen_made {c P : Addr} {elt iter : Expr} {xa xb : Str} {pa pb pt gpos : Pos} {kt : Nat} {sc : Scope} {te : TE} {k : Nat} {Q' : Value → Shared → Prop} {Want : List (Int × Int) → Hp → Prop} {Gives : Int → Int → Value → Prop}
    (room : Room k X.A) (TB : TabB X.base X.mg c P) (hcode : X.env.code = .ref c) (own : OwnScope X.env sc xa xb) (walked : PE X iter te) (plain : ∀ v, genFold iter X.env v = pure v) (I : Inv X pins σ H s)
    (each : ∀ s₁ H₁, Inv X pins σ H₁ s₁ → TabG H₁ P → EltAt X s₁ P sc xa xb elt Gives)
    (h : te σ H fun v H₁ => ∃ (a : Addr) (vs : List V) (ps : List (Int × Int)), v = .ref a ∧ (SqL X.K H₁ a vs ∨ SqT X.K H₁ a vs) ∧ Prs H₁ vs ps ∧ TabG H₁ P ∧ Want ps H₁)
    (fin : ∀ ps H₁ g s₅, Want ps H₁ → Fresh X pins σ H₁ P ps Gives g s₅ → Q' (.ref g) s₅) :
    wpAny (model X.prog X.w) X.A (eval (.GeneratorExp elt [⟨.Tuple [.Name xa pa, .Name xb pb] kt pt, iter, [], 0⟩] sc gpos) X.env) Q' X.xe s := by
  obtain ⟨⟨o1, o2, o3⟩, ⟨o4, o5, o6⟩, o7, o8⟩ := own
  have deep : X.A.depth < recursionLimit := by have := room.dp; omega
  refine wpAny_GeneratorExp_walksQT room.hd o2 (closure_ok o8) o7 o4 o5 o6 o3 o1 deep (thn (walked.run pins s σ H _ I h) fun u s₁ had => ?_) plain
  obtain ⟨_, H₁, I₁, rel, a, vs, ps, rfl, hS, hp, ⟨tb, hP, ok⟩, want⟩ := had
  cases rel
  have tabAt : s₁.heap.get? P = some { cls := .none, data := .fields tb } := I₁.hok P _ hP
  refine begin_pairs I₁ hS hp hP fun o beg => ?_
  obtain ⟨foot, Hold, At, Mid, W, holds, at0, low⟩ := beg
  have statics : cStatics < s₁.heap.objs.size ∧ cStatics ≠ P := by
    obtain ⟨_, ns, _⟩ := I₁.nolimit
    refine ⟨ns.lt, fun z => ?_⟩
    obtain ⟨ob, _, _, e, d, _⟩ := ns
    rw [z, tabAt] at e
    rw [← Option.some.inj e] at d
    cases d
  have quiet : (s₁.heap.push o).NoLimit := I₁.nolimit.push o
  refine ⟨quiet, code_there hcode (TB.code.keeps fun b u e => Heap.get?_push_of_some _ (I₁.bk b u e)) (Heap.get?_push_of_some _ tabAt) ok fun code h₃ tk more ext le tab₃ ok₃ => ?_⟩
  rw [Heap.size_push] at le
  have stays : ∀ b u, b ≠ P → s₁.heap.get? b = some u → h₃.get? b = some u := fun b u hb e => ext b u hb (Heap.get?_push_of_some _ e)
  obtain ⟨bm, ob, f1, f2, f3, f4, f5, f6, f7, f8⟩ := TB.bm
  have globals : Heap.Ns h₃ X.env.globals X.mg := by
    rw [I₁.ok.glob]
    exact ((I₁.mod.glob.keeps I₁.bk).push o).extBut ext TB.gP
  refine wpAny_builtinsFor (m := X.mg) globals f1 f2 (stays bm ob f4 (I₁.bk bm ob f5)) f6 f7 f8 ?_
  have later : ∀ b u, s₁.heap.get? b = some u → b ∉ [h₃.objs.size, s₁.heap.objs.size] := fun b u e z => by
    have lt := Heap.lt_size e
    rcases List.mem_cons.mp z with z' | z'
    · exact Nat.lt_irrefl _ (Nat.lt_of_lt_of_le (z' ▸ lt) (Nat.le_of_succ_le le))
    · exact Nat.lt_irrefl _ (List.mem_singleton.mp z' ▸ lt)
  refine ⟨_, _, _, _, _, _, _, fun _ => true, fun i y => i < ps.length → ∃ p, ps[i]? = some p ∧ Gives p.1 p.2 y, rfl, W, fun i xs hx => ?_, ?_, fun b hb => Nat.lt_of_lt_of_le (low b hb).1 le, quiet.extBut ext statics.2, fun z => Nat.ne_of_lt statics.1 (List.mem_singleton.mp z), fun ref kept => ⟨?_, ?_⟩, ?_⟩
  · obtain ⟨p, ta, tb', _, e⟩ := holds i xs hx.1 hx.2
    exact ⟨_, _, e⟩
  · exact (W X.A room.hd).frame _ _ _ at0 fun b hb u e => ext b u (low b hb).2 e
  · intro A' E' i va vb s₂ m _ _ _ _ _ _
    rw [List.forIn_nil]
    exact wpAny_pure ⟨rfl, _, _, rfl, fun _ _ e => e⟩
  · intro A' E' i va vb s₂ m calm hx _ ns ea eb still
    obtain ⟨p, ta, tb', ep, e⟩ := holds i _ hx.1 hx.2
    have e1 : va = .int p.1 ta := by have z := congrArg (·[0]?) e; simpa using z
    have e2 : vb = .int p.2 tb' := by have z := congrArg (·[1]?) e; simpa using z
    subst e1 e2
    refine wpAny_mono (each s₁ H₁ I₁ ⟨tb, hP, ok⟩ _ code A' E' p.1 p.2 ta tb' s₂ m calm (fun b u hb q => ?_) ns ea eb) (fun y s₃ r => ⟨fun _ => ⟨p, ep, r.1⟩, r.2⟩) fun _ _ q => q
    have q3 := stays b u hb q
    exact still b (List.mem_range.mpr (Heap.lt_size q3)) (fun z => later b u q (List.mem_cons_of_mem _ z)) u (kept b u q3)
  · intro g h₅ tk₅ gs bare above size kept W₅ at₅
    rw [GxR.passing_true, List.length_range] at W₅
    have above' : h₃.objs.size < g := above
    have size' : h₅.objs.size = g + 1 := size
    refine fin ps H₁ g _ want ⟨_, _, _, _, _, ⟨W₅.in4_1, at₅, fun b hb => ?_⟩, fun j v it => ?_, fun s₆ mv => ?_⟩
    · show b < h₅.objs.size
      rw [size']
      rcases List.mem_cons.mp hb with eg | e
      · rw [eg]; exact Nat.lt_succ_self g
      · refine Nat.lt_succ_of_le (Nat.le_trans ?_ (Nat.le_of_lt above'))
        rcases List.mem_cons.mp e with e' | e'
        · rw [e']; exact Nat.le_refl _
        · exact Nat.le_of_lt (List.mem_range.mp e')
    · obtain ⟨i, ei, hg⟩ := it
      have lt : j < ps.length := by
        have z := (List.getElem?_eq_some_iff.mp ei).1
        rwa [List.length_range] at z
      rw [List.getElem?_range lt] at ei
      cases ei
      exact hg lt
    · have all : ∀ b u, b ≠ P → s₁.heap.get? b = some u → s₆.heap.get? b = some u := fun b u hb e => mv.heap b u (later b u e) (kept b u (stays b u hb e))
      have tab₆ := mv.heap P _ (later P _ tabAt) (kept P _ tab₃)
      have J := inv_tab (more := more) (d' := s₆.drawn) (t' := s₆.toks) I₁ hP all tab₆ (AllBare.movedS (I₁.bare.push bare) mv)
      rw [sh_eta s₁ s₆ mv.os] at J
      exact ⟨_, ⟨⟨tb ++ more, upd_same, ok₃⟩, fun b hb => upd_ne hb⟩, J⟩

/-- the sum of g over the pairs -/
def sumP (g : Int → Int → Int) (ps : List (Int × Int)) : Int := (ps.map fun p => g p.1 p.2).sum
theorem preSum_is (g : Int → Int → Int) (ps : List (Int × Int)) (val : Nat → Int) (h : ∀ i p, ps[i]? = some p → val i = g p.1 p.2) : ∀ n, n ≤ ps.length → preSum val n = sumP g (ps.take n)
  | 0, _ => rfl
  | n + 1, hn => by
    have e : ps[n]? = some ps[n] := List.getElem?_eq_getElem hn
    show preSum val n + val n = _
    rw [preSum_is g ps val h n (by omega), h n _ e]
    unfold sumP
    rw [List.take_add_one, e, List.map_append, List.sum_append]
    show _ = _ + (g ps[n].1 ps[n].2 + 0)
    rw [Int.add_zero]
/-- what the reading of sum(..), any(..) over pairs asks: what is captured (Cap), the pairs, the table; then the answer -/
def tOver {α : Type} (K : PySem.W.Frag) (P : Addr) (Cap : L2.St → α → Prop) (ans : α → List (Int × Int) → V) (te : TE) : TE := fun σ H Q => ∃ x : α, Cap σ x ∧ te σ H fun v H₁ => ∃ (a : Addr) (vs : List V) (ps : List (Int × Int)), v = .ref a ∧ (SqL K H₁ a vs ∨ SqT K H₁ a vs) ∧ Prs H₁ vs ps ∧ TabG H₁ P ∧
  ∀ H₂, Tabbed P H₁ H₂ → Q (ans x ps) H₂
/-- how a built-in takes a generator over pairs -/
def Takes2 (X : Cx) (name : String) (Gives : Int → Int → Value → Prop) (ans : List (Int × Int) → V) : Prop :=
  ∀ (pins : List (Addr × Obj)) (σ : L2.St) (P : Addr) (ps : List (Int × Int)) (H₁ : Hp) (gen : Addr) (s₅ : Shared) (Q : VK), Fresh X pins σ H₁ P ps Gives gen s₅ → (∀ H₂, Tabbed P H₁ H₂ → Q (ans ps) H₂) →
    wpAny (model X.prog X.w) X.A (call (.builtin name) [.ref gen]) (EP X pins σ Q) X.xe s₅
theorem pe_over {α : Type} {name : String} {x : Str} {c P : Addr} {elt iter : Expr} {xa xb : Str} {pa pb pt p pos gpos : Pos} {kt : Nat} {sc : Scope} {Cap : L2.St → α → Prop} {Gives : α → Int → Int → Value → Prop} {ans : α → List (Int × Int) → V} {te : TE} {k : Nat} (takes : ∀ y, Takes2 X name (Gives y) (ans y))
    (room : Room k X.A) (glob : Gl X x) (free : X.mg x = none) (bltn : bootBuiltins x = some (.builtin name)) (TB : TabB X.base X.mg c P) (hcode : X.env.code = .ref c) (own : OwnScope X.env sc xa xb) (walked : PE X iter te)
    (each : ∀ pins σ s₁ H₁ y, Inv X pins σ H₁ s₁ → TabG H₁ P → Cap σ y → EltAt X s₁ P sc xa xb elt (Gives y)) (plain : ∀ v, genFold iter X.env v = pure v) (n1 : x ≠ "__name__" := by decide) (n2 : (x == ("__debug__" : Str)) = false := by decide)
    (one : starEach [.GeneratorExp elt [⟨.Tuple [.Name xa pa, .Name xb pb] kt pt, iter, [], 0⟩] sc gpos] X.env = [(false, eval (.GeneratorExp elt [⟨.Tuple [.Name xa pa, .Name xb pb] kt pt, iter, [], 0⟩] sc gpos) X.env)] := by rfl) :
    PE X (.Call (.Name x p) [.GeneratorExp elt [⟨.Tuple [.Name xa pa, .Name xb pb] kt pt, iter, [], 0⟩] sc gpos] [] pos) (tOver X.K P Cap ans te) := by
  constructor
  intro pins s σ H Q I h
  obtain ⟨y, cap, h⟩ := h
  refine wpAny_Call_Name_kw (ld_blt I glob free bltn (callWith_builtin1 ?_ one (by rfl)) n1 n2)
  rw [one]
  refine Calls.spliced_cons (gen_made (Want := fun ps H₁ => ∀ H₂, Tabbed P H₁ H₂ → Q (ans y ps) H₂) (Gives := Gives y) room TB hcode own walked plain I (fun s₁ H₁ J g => each pins σ s₁ H₁ y J g cap) h fun ps H₁ gen s₅ want fresh => Calls.spliced_nil ?_)
  exact takes y pins σ P ps H₁ gen s₅ Q fresh want
theorem takes_sum (g : Int → Int → Int) : Takes2 X "sum" (fun a b y => ∃ t, y = .int (g a b) t) (fun ps => .int (sumP g ps)) := by
  intro pins σ P ps H₁ gen s₅ Q fresh want
  obtain ⟨foot, writes, Gens, Item, At, ⟨W, a0, low⟩, items, behind⟩ := fresh
  let val : Nat → Int := fun i => (ps[i]?.map fun p => g p.1 p.2).getD 0
  have hv : ∀ i p, ps[i]? = some p → val i = g p.1 p.2 := fun i p e => by show (ps[i]?.map _).getD 0 = _; rw [e]; rfl
  refine call_sum_walkAnyS (W.self 0 _ _ _ a0 ⟨gen, foot, writes, Gens, ps.length, Item, At, val, rfl, W, a0, low, fun i v it => ?_, fun s₆ t mv => ?_⟩)
  · obtain ⟨p, e, t, ev⟩ := items i v it
    exact ⟨t, by rw [hv i p e]; exact ev⟩
  · obtain ⟨H₂, tabbed, J⟩ := behind s₆ mv
    refine ⟨.int (preSum val ps.length), H₂, J, ⟨t, rfl⟩, ?_⟩
    rw [preSum_is g ps val hv ps.length (Nat.le_refl _), List.take_length]
    exact want H₂ tabbed
def anyP (g : Int → Int → Bool) (ps : List (Int × Int)) : Bool := ps.any fun p => g p.1 p.2
theorem any_is {α : Type} (ps : List α) (f : α → Bool) (tr : Nat → Bool) (h : ∀ i p, ps[i]? = some p → tr i = f p) : (List.range ps.length).any tr = ps.any f := by
  rw [Bool.eq_iff_iff, List.any_eq_true (l := List.range _), List.any_eq_true]
  constructor
  · rintro ⟨i, hi, e⟩
    have lt := List.mem_range.mp hi
    exact ⟨ps[i], List.getElem_mem lt, by rw [← h i _ (List.getElem?_eq_getElem lt)]; exact e⟩
  · rintro ⟨p, hp, e⟩
    obtain ⟨i, lt, rfl⟩ := List.getElem_of_mem hp
    exact ⟨i, List.mem_range.mpr lt, by rw [h i _ (List.getElem?_eq_getElem lt)]; exact e⟩
theorem takes_any (g : Int → Int → Bool) : Takes2 X "any" (fun a b y => y = .bool (g a b)) (fun ps => .bl (anyP g ps)) := by
  intro pins σ P ps H₁ gen s₅ Q fresh want
  obtain ⟨foot, writes, Gens, Item, At, ⟨W, a0, low⟩, items, behind⟩ := fresh
  let tr : Nat → Bool := fun i => (ps[i]?.map fun p => g p.1 p.2).getD false
  have ht : ∀ i p, ps[i]? = some p → tr i = g p.1 p.2 := fun i p e => by show (ps[i]?.map _).getD false = _; rw [e]; rfl
  refine call_any_walkS (W.self 0 _ _ _ a0 ⟨gen, foot, writes, Gens, ps.length, Item, At, tr, rfl, W, a0, fun i v s' Q' E' it q => ?_, fun s₆ mv => ?_⟩)
  · obtain ⟨p, e, rfl⟩ := items i v it
    rw [ht i p e] at q
    exact wpAny_truthy_bool q
  · obtain ⟨H₂, tabbed, J⟩ := behind s₆ mv
    refine ⟨.bl _, H₂, J, rfl, ?_⟩
    rw [any_is ps (fun p => g p.1 p.2) tr ht]
    exact want H₂ tabbed
/-- a whole number that the expression captures, as its cell has it -/
theorem captured {i : Nat} {y : Str} {n : Int} {P : Addr} (I : Inv X pins σ H s) (hN : X.N[i]? = some y) (hk : X.env.scope.names.lookup y = some .cell) (hv : σ[i]? = some (some (.int n))) (g : TabG H P) :
    ∃ c t, X.env.cells.lookup y = some c ∧ s.heap.IsCell c (some (.int n t)) ∧ c ≠ P := by
  obtain ⟨tb, hP, _⟩ := g
  obtain ⟨m, _, look⟩ := I.loc
  obtain ⟨u, ⟨t, rfl⟩, l⟩ := look i y _ hN hv (.inr (.inl hk))
  rcases l with ⟨z, _⟩ | ⟨_, c, e, o, ho, hd⟩
  · rw [show X.env.kindOf y = some .cell from hk] at z
    cases z
  · refine ⟨c, t, e, ⟨o, ho, hd⟩, fun z => ?_⟩
    rw [z, I.hok P _ hP] at ho
    rw [← Option.some.inj ho] at hd
    cases hd
/-- the names of the module and the built-in ones, where the expression runs -/
theorem names_in {P : Addr} {s₂ : Shared} (I : Inv X pins σ H s) (g : TabG H P) (gP : mainGlobals ≠ P) (kept : ∀ x o, x ≠ P → s.heap.get? x = some o → s₂.heap.get? x = some o) :
    s₂.heap.Ns mainGlobals X.mg ∧ ∃ mb, s₂.heap.Ns builtinsNs mb ∧ ∀ x : Str, x ≠ "__name__" → mb x = bootBuiltins x := by
  obtain ⟨tb, hP, _⟩ := g
  obtain ⟨mb, b1, b2⟩ := I.mod.blt
  have at_ : ∀ b m, b ≠ P → s.heap.Ns b m → s₂.heap.Ns b m := fun b m hb ⟨o, es, ep, ho, r⟩ => ⟨o, es, ep, kept b o hb ho, r⟩
  refine ⟨at_ _ _ gP (I.mod.glob.keeps I.bk), mb, at_ _ _ (fun z => ?_) (b1.keeps I.bk), b2⟩
  obtain ⟨o, es, ep, ho, hd, _⟩ := b1.keeps I.bk
  rw [z, I.hok P _ hP] at ho
  rw [← Option.some.inj ho] at hd
  cases hd
end
end GP

namespace TK
open PySem PySem.Spec PyProof.Rows L2 GP
def topS (i : Nat) : Stmt := PySem.Challenge.pw_tinrecall_k44_least_costs_by_trying.main.body.getD i (.Pass ⟨0, 0, 0, 0⟩)

/-- the draws' state: its dict at d, its cells at c -/
structure StAt (H : Hp) (d c : Addr) (t : Int) : Prop where
  dict : H d = some (.dK [(.inr "cells", .ref c), (.inr "turn", .int t)])
  cells : ∃ cs : List Int, H c = some (.lst (cs.map V.int)) ∧ cs ≠ [] ∧ cs.length ≤ 63
  pos : 0 ≤ t
theorem StAt.ne {H : Hp} {d c : Addr} {t : Int} (h : StAt H d c t) : d ≠ c := by
  obtain ⟨cs, hc, _⟩ := h.cells
  exact ne_of h.dict hc (by intro z; cases z)
/-- all but the state is as it was -/
def Kp (d c : Addr) (H H' : Hp) : Prop := ∀ b o, b ≠ d → b ≠ c → H b = some o → H' b = some o
theorem Kp.refl (d c : Addr) (H : Hp) : Kp d c H H := fun _ _ _ _ h => h
theorem Kp.trans {d c : Addr} {H H1 H2 : Hp} (a : Kp d c H H1) (b : Kp d c H1 H2) : Kp d c H H2 := fun x o h1 h2 h => b x o h1 h2 (a x o h1 h2 h)

theorem ixN_of {n j : Nat} (h : j < n) : ixN n (j : Int) = some j := by
  unfold ixN
  rw [if_pos (Int.natCast_nonneg j), if_pos (by omega), Int.toNat_natCast]
def spTake : Sp := fun vs H Q _ => ∃ (d c : Addr) (t m : Int), vs = [.ref d, .int m] ∧ StAt H d c t ∧ t < 2 ^ 60 ∧ 0 < m ∧ m.natAbs < 2 ^ 250 ∧
  ∀ r H', 0 ≤ r → r < m → StAt H' d c (t + 1) → Kp d c H H' → Q (.int r) H'

abbrev sTake : Stmt := topS 7
theorem scTake : FnScope ["_law_state", "_law_many", "_law_turn", "_law_place", "_law_cell", "_law_digit", "_law_mixed"] ["_law_state", "_law_many"] (defScope sTake) := ⟨rfl, rfl, rfl, by decide +kernel, rfl, by decide +kernel, by decide +kernel⟩
section
variable {K : PySem.W.Frag} {mg : Str → Option Value} {P : Program} {w : World} {base : Heap}
theorem ok_take {f : Addr} {fd : FuncData} {k : Nat} (F : Fun K "_law_take" "_law_take" sTake f fd) (ml : mg "len" = none) (md : mg "divmod" = none) : FnOk P w K mg base CX0 (k + 1) f fd ["_law_state", "_law_many"] spTake := by
  refine F.ok scTake (fun vs H Q E h => ?_) (fun cdv A outer s H vs Q E hr h => ?_)
  · obtain ⟨d, c, t, m, rfl, _⟩ := h
    rfl
  · obtain ⟨d, c, t, m, rfl, hS, ht, hm, hm2, q⟩ := h
    refine ⟨_, pss_cons (ps_set (i := 2) scTake.nd rfl (.inl rfl) (pe_op op_add (pe_dget (hu_of hr) (pv 0) pe_str (fun _ _ => rfl)) pe_int))
      (pss_cons (ps_dput (hu_of hr) (pv 0) pe_str (pv 2) rfl)
      (pss_cons (ps_set (i := 3) scTake.nd rfl (.inl rfl) (pe_op op_mod (pv 2) (pe_callB call_len_seq (by rfl) ml PySem.boot_len (pa_cons (pe_dget (hu_of hr) (pv 0) pe_str (fun _ _ => rfl)) pa_nil))))
      (pss_cons (ps_set (i := 4) scTake.nd rfl (.inl rfl) (pe_ix ix_list (pe_dget (hu_of hr) (pv 0) pe_str (fun _ _ => rfl)) (pv 3) (fun _ _ => rfl)))
      (pss_cons (ps_if (pt_cmpR op_ge (pv 4) (pe_op op_pow pe_int pe_int) (nomark _))
        (pss_cons (ps_asg (pe_callB call_divmodW (by rfl) md (by decide +kernel) (pa_cons (pv 4) (pa_cons (pv 1) pa_nil)))
            (pg_tup rfl (pgs_cons (pg_sub (pe_dget (hu_of hr) (pv 0) pe_str (fun _ _ => rfl)) (pv 3) set_list) (pgs_cons (pg_name (i := 5) scTake.nd rfl (.inl rfl)) pgs_nil))))
          (pss_one (ps_ret (pv 5)))) pss_nil)
      (pss_cons (ps_set (i := 6) scTake.nd rfl (.inl rfl) (pe_op op_mod (pe_op op_mul (pe_op op_add (pe_op op_add (pe_op op_mod (pv 4) pe_int) (pe_op op_mul (pe_op op_mul (pv 2) (pv 2)) pe_int)) pe_int) pe_int) pe_int))
      (pss_cons (ps_set (i := 6) scTake.nd rfl (.inl rfl) (pe_op op_mod (pe_op op_mul (pv 6) (pv 6)) pe_int))
      (pss_one (ps_ret (pe_op op_mod (pe_op op_fdiv (pe_op op_mod (pe_op op_mul (pe_op op_add (pv 6) (pe_op op_mul (pv 2) pe_int)) pe_int) pe_int) pe_int) (pv 1)))))))))), ?_⟩
    obtain ⟨hd, ⟨cs, hc, hne, hlen⟩, hpos⟩ := hS
    have ndc : d ≠ c := ne_of hd hc (by intro z; cases z)
    -- turn = state['turn'] + 1
    refine ⟨.ref d, rfl, d, .int t, rfl, DGet.k (k := Sum.inr "turn") hd, t, 1, rfl, rfl, ?_⟩
    -- state['turn'] = turn
    refine ⟨_, rfl, .ref d, rfl, d, _, rfl, DPut.k (k := Sum.inr "turn") hd (by show 2 < sizeLine; decide), ?_⟩
    have hput : putK [((.inr "cells" : Key), V.ref c), (.inr "turn", .int t)] (.inr "turn") (.int (t + 1)) = [(.inr "cells", .ref c), (.inr "turn", .int (t + 1))] := rfl
    rw [show (.int (t + 1) : V) = V.int (t + 1) from rfl] at *
    rw [hput]
    generalize hH1 : upd H d (.dK [((.inr "cells" : Key), V.ref c), (.inr "turn", .int (t + 1))]) = H1
    have hd1 : H1 d = some (.dK [(.inr "cells", .ref c), (.inr "turn", .int (t + 1))]) := by rw [← hH1]; exact upd_same
    have hc1 : H1 c = some (.lst (cs.map V.int)) := by rw [← hH1, upd_ne ndc.symm]; exact hc
    have k1 : Kp d c H H1 := fun b o h1 h2 e => by rw [← hH1, upd_ne h1]; exact e
    have hlp : 0 < cs.length := List.length_pos_iff.mpr hne
    -- place = turn % len(state['cells'])
    refine ⟨_, rfl, .ref d, rfl, d, .ref c, rfl, DGet.k (k := Sum.inr "cells") hd1, c, _, rfl, .inl (SqL.of hc1), _, _, rfl, rfl, (by show (0 : Int) < ((cs.map V.int).length : Int); rw [List.length_map]; omega), ?_⟩
    dsimp only
    rw [List.length_map]
    have hj0 : 0 ≤ (t + 1) % (cs.length : Int) := Int.emod_nonneg _ (by omega)
    have hj1 : (t + 1) % (cs.length : Int) < cs.length := Int.emod_lt_of_pos _ (by omega)
    obtain ⟨j, hj⟩ := Int.eq_ofNat_of_zero_le hj0
    have hjl : j < cs.length := by omega
    rw [hj]
    have gj : (cs.map V.int)[j]? = some (.int cs[j]) := by rw [List.getElem?_map, List.getElem?_eq_getElem hjl]; rfl
    -- cell = state['cells'][place]
    refine ⟨.ref d, rfl, d, .ref c, rfl, DGet.k (k := Sum.inr "cells") hd1, _, rfl, c, _, _, .int cs[j], rfl, rfl, SqL.of hc1, atI_nat gj, ?_⟩
    generalize cs[j] = x
    -- if cell >= 10 ** 18
    refine ⟨_, rfl, 10, 18, rfl, rfl, ⟨by decide, by decide, by decide⟩, _, _, rfl, rfl, _, rfl, ite2 (fun e => ?_) (fun e => ?_)⟩
    · have hdp : CDivP x m := ⟨hm, PyProof.noPylong_of_log2 (Nat.lt_trans (PySem.Flt.log2_lt_of (by decide) hm2) (by decide))⟩
      refine ⟨_, rfl, _, rfl, x, m, rfl, hdp, fun p hp => ?_⟩
      have npd : d ≠ p := ne_of_none hd1 hp
      have npc : c ≠ p := ne_of_none hc1 hp
      have hd2 : upd H1 p (.tup [.int (x / m), .int (x % m)]) d = some (.dK [(.inr "cells", .ref c), (.inr "turn", .int (t + 1))]) := by rw [upd_ne npd]; exact hd1
      have hc2 : upd H1 p (.tup [.int (x / m), .int (x % m)]) c = some (.lst (cs.map V.int)) := by rw [upd_ne npc]; exact hc1
      refine ⟨p, _, rfl, .inl (.inl upd_same), rfl, _, _, rfl, .ref d, rfl, d, .ref c, rfl, DGet.k (k := Sum.inr "cells") hd2, _, rfl, c, _, _, j, rfl, rfl, hc2, ixN_of (by rw [List.length_map]; exact hjl), _, _, rfl, rfl, ?_⟩
      refine ⟨_, rfl, ?_⟩
      refine q _ _ (Int.emod_nonneg _ (by omega)) (Int.emod_lt_of_pos _ hm) ⟨?_, ⟨cs.set j (x / m), ?_, ?_, ?_⟩, by omega⟩ ?_
      · rw [upd_ne ndc]; exact hd2
      · rw [upd_same, List.map_set]
      · intro z
        have z2 : (cs.set j (x / m)).length = 0 := by rw [z]; rfl
        rw [List.length_set] at z2
        omega
      · rw [List.length_set]; exact hlen
      · intro b o h1 h2 e
        rw [upd_ne h2, upd_ne (ne_of_none (k1 b o h1 h2 e) hp)]
        exact k1 b o h1 h2 e
    · have t1 : t + 1 < 2 ^ 61 := by omega
      -- mixed
      refine ⟨_, rfl, _, _, rfl, rfl, (show (0 : Int) < 2147483629 by decide), _, rfl, _, rfl, t + 1, t + 1, rfl, rfl, .inl ⟨by omega, by omega⟩, _, _, rfl, rfl, .inr ⟨by decide, by decide⟩, _, _, rfl, rfl, _, _, rfl, rfl, _, _, rfl, rfl, .inr ⟨by decide, by decide⟩, _, 2147483647, rfl, rfl, (show (0 : Int) < 2147483647 by decide), ?_⟩
      dsimp only
      generalize hy : ((x % 2147483629 + (t + 1) * (t + 1) * 7919 + 11) * 48271) = y
      have y0 : 0 ≤ y % 2147483647 := Int.emod_nonneg _ (by decide)
      have y1 : y % 2147483647 < 2147483647 := Int.emod_lt_of_pos _ (by decide)
      refine ⟨_, rfl, _, rfl, y % 2147483647, y % 2147483647, rfl, rfl, .inl ⟨by omega, by omega⟩, _, 2147483587, rfl, rfl, (show (0 : Int) < 2147483587 by decide), ?_⟩
      refine ⟨_, rfl, _, rfl, t + 1, 104729, rfl, rfl, .inr ⟨by decide, by decide⟩, _, _, rfl, rfl, _, _, rfl, rfl, .inr ⟨by decide, by decide⟩, _, 2147483629, rfl, rfl, (show (0 : Int) < 2147483629 by decide), _, 64, rfl, rfl, ⟨by decide, by decide⟩, _, rfl, _, m, rfl, rfl, hm, ?_⟩
      exact q _ _ (Int.emod_nonneg _ (by omega)) (Int.emod_lt_of_pos _ hm) ⟨hd1, ⟨cs, hc1, hne, hlen⟩, by omega⟩ k1
end

abbrev sBegin : Stmt := topS 6
theorem scBegin : FnScope ["_law_script", "_law_cells"] ["_law_script"] (defScope sBegin) := ⟨rfl, rfl, rfl, by decide +kernel, rfl, by decide +kernel, by decide +kernel⟩
theorem same_upd {H : Hp} {p : Addr} {o : HO} (h : H p = none) : Same H (upd H p o) := fun b x e => by
  rw [upd_ne (ne_of_none e h)]
  exact e
theorem cut_front (xs : List V) (m : Nat) : cutV xs none (some (m : Int)) = xs.take m := by
  unfold cutV
  rw [HT.sIx_none, HT.sIx_nat]
  show List.take (min m xs.length - 0) (xs.drop 0) = xs.take m
  rw [Nat.sub_zero, List.drop_zero]
  by_cases h : m ≤ xs.length
  · rw [Nat.min_eq_left h]
  · rw [Nat.min_eq_right (by omega), List.take_length, List.take_of_length_le (by omega)]
theorem dp_ints {K : PySem.W.Frag} {H : Hp} : ∀ ns : List Int, DpAll K H (ns.map V.int) (ns.map PyData.int)
  | [] => .nil
  | n :: r => .cons (.int n) (dp_ints r)
theorem lay_ints : ∀ ns : List Int, PyData.canLayAll0 (ns.map PyData.int) = true
  | [] => by simp only [List.map_nil, PyData.canLayAll0]
  | n :: r => by
    rw [List.map_cons, PyData.canLayAll0, lay_ints r]
    simp [PyData.canLay0]
theorem depth_ints : ∀ ns : List Int, PyData.depthAll (ns.map PyData.int) = 0
  | [] => by simp only [List.map_nil, PyData.depthAll]
  | n :: r => by
    rw [List.map_cons, PyData.depthAll, depth_ints r]
    simp [PyData.depth]
theorem shaped_ints (ns : List Int) : SeqAt.shaped (PyData.list (ns.map PyData.int)) = true := by
  unfold SeqAt.shaped
  rw [PyData.canLay0, lay_ints, PyData.depth, depth_ints]
  rfl
theorem eqv_nil (n : Int) (r : List Int) : PyData.eqv (PyData.list ((n :: r).map PyData.int)) (PyData.list []) = false := by
  simp [PyData.eqv, PyData.eqvAll]
theorem eqv_nil0 : PyData.eqv (PyData.list (([] : List Int).map PyData.int)) (PyData.list []) = true := by
  simp [PyData.eqv, PyData.eqvAll]
def spBegin (K : PySem.W.Frag) : Sp := fun vs H Q _ => ∃ (a : Addr) (ns : List Int), vs = [.ref a] ∧ SqL K H a (ns.map V.int) ∧ ns.length ≤ 63 ∧
  ∀ d c H', Same H H' → H d = none → H c = none → StAt H' d c 0 → Q (.ref d) H'
section
variable {K : PySem.W.Frag} {mg : Str → Option Value} {P : Program} {w : World} {base : Heap}
theorem ok_begin {f : Addr} {fd : FuncData} {k : Nat} (F : Fun K "_law_begin" "_law_begin" sBegin f fd) (ml : mg "list" = none) : FnOk P w K mg base CX0 (k + 1) f fd ["_law_script"] (spBegin K) := by
  refine F.ok scBegin (fun vs H Q E h => ?_) (fun cdv A outer s H vs Q E hr h => ?_)
  · obtain ⟨a, ns, rfl, _⟩ := h
    rfl
  · obtain ⟨a, ns, rfl, hS, hlen, q⟩ := h
    refine ⟨_, pss_cons (ps_set (i := 1) scBegin.nd rfl (.inl rfl) (pe_callTy call_list_of (by rfl) ml (by decide +kernel) (pa_cons (pe_slice sl_list (pv 0) po_none (po_some pe_int)) pa_nil)))
      (pss_cons (ps_if (pt_cmpR (op_eqD hr.units) (pv 1) (pe_lst pa_nil) (nomark _)) (pss_one (ps_set (i := 1) scBegin.nd rfl (.inl rfl) (pe_lst (pa_cons pe_int pa_nil)))) pss_nil)
      (pss_one (ps_ret (pe_disp (pps_cons pe_str (pv 1) (pps_cons pe_str pe_int pps_nil)) (by rfl) (by rfl) (fun z => by cases z) (by decide))))), ?_⟩
    -- the end: a dict of what stands at the cells' place
    have fin : ∀ (H1 : Hp) (c : Addr) (cs : List Int) (y : Option V), Same H H1 → H c = none → H1 c = some (.lst (cs.map V.int)) → cs ≠ [] → cs.length ≤ 63 →
        (tRet (tDisp [(tC (.str "cells"), tVar 1), (tC (.str "turn"), tC (.int 0))])) { nx := fun _ H' => Q .non H', rt := Q } [some (.ref a), some (.ref c)] H1 := by
      intro H1 c cs y s1 nc ec hne hl
      refine fun d nd => ⟨_, rfl, upd_same, [(.inr "cells", .ref c), (.inr "turn", .int 0)], rfl, (by show 2 ≤ 15; decide), ?_⟩
      have ndc : c ≠ d := ne_of_none ec nd
      refine q d c _ (fun b o e => ?_) (s1.free nd) nc ⟨?_, ⟨cs, ?_, hne, hl⟩, by decide⟩
      · have nb : b ≠ d := ne_of_none (s1 b o e) nd
        rw [upd_ne nb, upd_ne nb]
        exact s1 b o e
      · exact upd_same
      · rw [upd_ne ndc, upd_ne ndc]
        exact ec
    refine ⟨.ref a, rfl, 63, rfl, a, ns.map V.int, rfl, hS, fun p np => ?_⟩
    have s1 : Same H (upd H p (.lst (cutV (ns.map V.int) none (some 63)))) := same_upd np
    refine ⟨p, _, rfl, .inl (SqL.of upd_same), fun l nl => ?_⟩
    have s2 := s1.trans (same_upd (o := .lst (cutV (ns.map V.int) none (some 63))) nl)
    have ecut : cutV (ns.map V.int) none (some 63) = ns.map V.int := by
      have e := cut_front (ns.map V.int) 63
      have e2 : cutV (ns.map V.int) none (some 63) = (ns.map V.int).take 63 := e
      rw [e2, List.take_of_length_le (by rw [List.length_map]; exact hlen)]
    have el : upd (upd H p (.lst (cutV (ns.map V.int) none (some 63)))) l (.lst (cutV (ns.map V.int) none (some 63))) l = some (.lst (ns.map V.int)) := by
      rw [upd_same, ecut]
    revert s2 el
    generalize upd (upd H p (.lst (cutV (ns.map V.int) none (some 63)))) l (.lst (cutV (ns.map V.int) none (some 63))) = H2
    intro s2 el
    have nlH : H l = none := s1.free nl
    -- if cells == []
    refine ⟨.ref l, rfl, Nat.zero_le _, fun z nz => ?_⟩
    have s3 := s2.trans (same_upd (o := .lst []) nz)
    have nlz : l ≠ z := ne_of_none el nz
    have el3 : upd H2 z (.lst []) l = some (.lst (ns.map V.int)) := by rw [upd_ne nlz]; exact el
    refine ⟨.list (ns.map PyData.int), .list [], .lst (SqL.of el3) (dp_ints ns), .lst (SqL.of upd_same) .nil, shaped_ints ns, shaped_ints [], ?_⟩
    cases ns with
    | nil =>
      refine ⟨true, by rw [eqv_nil0], iteT ?_⟩
      refine ⟨(by show 1 ≤ sizeLine; decide), fun c nc => ?_⟩
      exact fin _ c [_] none (s3.trans (same_upd nc)) (s3.free nc) upd_same (by simp) (by decide)
    | cons n r =>
      refine ⟨false, by rw [eqv_nil], iteF ?_⟩
      exact fin _ l (n :: r) none s3 nlH el3 (by simp) hlen
end

/-- a def of the text that keeps a promise, as its callers see it -/
def Cal (P : Program) (w : World) (K : PySem.W.Frag) (mg : Str → Option Value) (base : Heap) (k : Nat) (x : Str) (ps : List Str) (sp : Sp) : Prop :=
  ∃ f fd, FnOk P w K mg base CX0 k f fd ps sp ∧ mg x = some (.ref f) ∧ PySem.W.keepIn K (.ref f) = true ∧ Binds K fd ps []
theorem pe_own {X : Cx} {k : Nat} {x : Str} {ps : List Str} {sp : Sp} {e : Expr} {es : List Expr} {t : TA} {p pos : Pos} (C : Cal X.prog X.w X.K X.mg X.base k x ps sp) (hr : Room k X.A) (hg : Gl X x) (ha : PA X (e :: es) t)
    (dbg : (x == ("__debug__" : Str)) = false := by decide) (one : starEach (e :: es) X.env = (false, eval e X.env) :: starEach es X.env := by rfl) (star : (backTo pos (starEach es X.env)).any (·.1) = false := by rfl) :
    PE X (.Call (.Name x p) (e :: es) [] pos) (tCall sp [] E0 t) := by
  obtain ⟨f, fd, F, hm, hk, hb⟩ := C
  exact pe_call F hr hg hm hk hb .nil pass0 ha dbg one star
theorem StAt.same {H H' : Hp} {d c : Addr} {t : Int} (h : StAt H d c t) (s : Same H H') : StAt H' d c t :=
  ⟨s _ _ h.dict, let ⟨cs, e, r⟩ := h.cells; ⟨cs, s _ _ e, r⟩, h.pos⟩
theorem Kp.same {H H' : Hp} (d c : Addr) (s : Same H H') : Kp d c H H' := fun b o _ _ e => s b o e
/-- what is made behind the state stays -/
theorem Kp.at {H H' : Hp} {d c a : Addr} {t : Int} {o : HO} (k : Kp d c H H') (S : StAt H d c t) (e : H a = some o) (h1 : ∀ kvs, o ≠ .dK kvs) (h2 : ∀ ns : List Int, o ≠ .lst (ns.map V.int)) : H' a = some o := by
  obtain ⟨cs, ec, _⟩ := S.cells
  refine k a o (fun z => ?_) (fun z => ?_) e
  · rw [z, S.dict] at e
    exact h1 _ (Option.some.inj e).symm
  · rw [z, ec] at e
    exact h2 _ (Option.some.inj e).symm
theorem StAt.upd {H : Hp} {d c l : Addr} {t : Int} {o : HO} (S : StAt H d c t) (h1 : l ≠ d) (h2 : l ≠ c) : StAt (L2.upd H l o) d c t := by
  refine ⟨by rw [upd_ne h1.symm]; exact S.dict, ?_, S.pos⟩
  obtain ⟨cs, ec, r⟩ := S.cells
  exact ⟨cs, by rw [upd_ne h2.symm]; exact ec, r⟩

theorem _root_.GP.Prs.same {H H' : Hp} {vs : List V} {ps : List (Int × Int)} (h : Prs H vs ps) (s : Same H H') : Prs H' vs ps :=
  ⟨h.1, fun i p e => let ⟨a, e1, e2⟩ := h.2 i p e; ⟨a, e1, s _ _ e2⟩⟩
theorem _root_.GP.Prs.kp {H H' : Hp} {d c : Addr} {t : Int} {vs : List V} {ps : List (Int × Int)} (h : Prs H vs ps) (S : StAt H d c t) (k : Kp d c H H') : Prs H' vs ps :=
  ⟨h.1, fun i p e => let ⟨a, e1, e2⟩ := h.2 i p e; ⟨a, e1, k.at S e2 (fun _ z => nomatch z) (fun _ z => nomatch z)⟩⟩
theorem _root_.GP.Prs.upd_lst {H : Hp} {l : Addr} {xs : List V} {o : HO} {vs : List V} {ps : List (Int × Int)} (h : Prs H vs ps) (hl : H l = some (.lst xs)) : Prs (upd H l o) vs ps :=
  ⟨h.1, fun i p e => let ⟨a, e1, e2⟩ := h.2 i p e; ⟨a, e1, by rw [upd_ne (ne_of e2 hl (fun z => nomatch z))]; exact e2⟩⟩
theorem _root_.GP.Prs.nil {H : Hp} : Prs H [] [] := ⟨rfl, fun i p e => by simp at e⟩
theorem _root_.GP.Prs.snoc {H : Hp} {a : Addr} {x y : Int} {vs : List V} {ps : List (Int × Int)} (h : Prs H vs ps) (e : H a = some (.tup [.int x, .int y])) : Prs H (vs ++ [.ref a]) (ps ++ [(x, y)]) := by
  refine ⟨by simp [h.1], fun i p ep => ?_⟩
  by_cases hi : i < ps.length
  · rw [List.getElem?_append_left hi] at ep
    obtain ⟨b, e1, e2⟩ := h.2 i p ep
    exact ⟨b, by rw [List.getElem?_append_left (by rw [h.1]; exact hi)]; exact e1, e2⟩
  · rw [List.getElem?_append_right (by omega)] at ep
    have hz : i - ps.length = 0 := by
      cases hq : i - ps.length with
      | zero => rfl
      | succ n => rw [hq] at ep; simp at ep
    rw [hz] at ep
    have ep' : (x, y) = p := by simpa using ep
    subst ep'
    refine ⟨a, ?_, e⟩
    rw [List.getElem?_append_right (by rw [h.1]; omega), h.1, hz]
    rfl
/-- rising stretches with gaps, from lo on -/
def Ris : Int → List (Int × Int) → Prop
  | _, [] => True
  | lo, p :: r => lo ≤ p.1 ∧ p.1 ≤ p.2 ∧ Ris (p.2 + 2) r
theorem Ris.snoc : ∀ {lo : Int} {ps : List (Int × Int)} {a b : Int}, Ris lo ps → lo ≤ a → (∀ p ∈ ps, p.2 + 2 ≤ a) → a ≤ b → Ris lo (ps ++ [(a, b)])
  | lo, [], a, b, _, h1, _, h3 => ⟨h1, h3, True.intro⟩
  | lo, p :: r, a, b, h, h1, h2, h3 => ⟨h.1, h.2.1, Ris.snoc h.2.2 (h2 p (List.mem_cons_self ..)) (fun q hq => h2 q (List.mem_cons_of_mem _ hq)) h3⟩
theorem pick2 {x y r : Int} (Pv : Int → Prop) (h0 : 0 ≤ r) (h1 : r < 2) (hx : Pv x) (hy : Pv y) : ∃ v, Pv v ∧ atI [V.int x, V.int y] r = some (.int v) := by
  have : r = 0 ∨ r = 1 := by omega
  rcases this with rfl | rfl
  · exact ⟨x, hx, rfl⟩
  · exact ⟨y, hy, rfl⟩
theorem pick3 {x y z r : Int} (Pv : Int → Prop) (h0 : 0 ≤ r) (h1 : r < 3) (hx : Pv x) (hy : Pv y) (hz : Pv z) : ∃ v, Pv v ∧ atI [V.int x, V.int y, V.int z] r = some (.int v) := by
  have : r = 0 ∨ r = 1 ∨ r = 2 := by omega
  rcases this with rfl | rfl | rfl
  · exact ⟨x, hx, rfl⟩
  · exact ⟨y, hy, rfl⟩
  · exact ⟨z, hz, rfl⟩
/-- a new object stands through the state's change -/
theorem Kp.new {H H' : Hp} {d c l : Addr} {t : Int} {o : HO} (k : Kp d c (upd H l o) H') (S : StAt H d c t) (n : H l = none) : H' l = some o := by
  obtain ⟨cs, ec, _⟩ := S.cells
  exact k l o (ne_of_none S.dict n).symm (ne_of_none ec n).symm upd_same
theorem drop_at {α : Type} {l : List α} {i : Nat} {x : α} (h : l[i]? = some x) : l.drop i = x :: l.drop (i + 1) := by
  obtain ⟨lt, e⟩ := List.getElem?_eq_some_iff.mp h
  rw [← e]
  exact List.drop_eq_getElem_cons lt
theorem prs_at {H : Hp} {vs : List V} {ps : List (Int × Int)} {i : Nat} {x : V} (h : Prs H vs ps) (e : vs[i]? = some x) : ∃ (p : Int × Int) (a : Addr), ps[i]? = some p ∧ x = .ref a ∧ H a = some (.tup [.int p.1, .int p.2]) := by
  obtain ⟨hi, _⟩ := List.getElem?_eq_some_iff.mp e
  have hi2 : i < ps.length := by rw [← h.1]; exact hi
  obtain ⟨a, e1, e2⟩ := h.2 i ps[i] (List.getElem?_eq_getElem hi2)
  rw [e] at e1
  exact ⟨ps[i], a, List.getElem?_eq_getElem hi2, Option.some.inj e1, e2⟩

theorem sumP_append (g : Int → Int → Int) (ps qs : List (Int × Int)) : sumP g (ps ++ qs) = sumP g ps + sumP g qs := by
  unfold sumP
  rw [List.map_append, List.sum_append]
def inB (n a b : Int) : Bool := decide (a ≤ n) && decide (n ≤ b)
theorem Ris.le : ∀ {lo : Int} {ps : List (Int × Int)}, Ris lo ps → ∀ p ∈ ps, lo ≤ p.1 ∧ p.1 ≤ p.2
  | _, [], _, _, hp => nomatch hp
  | lo, q :: r, h, p, hp => by
    rcases List.mem_cons.mp hp with e | e'
    · rw [e]; exact ⟨h.1, h.2.1⟩
    · have := Ris.le h.2.2 p e'
      have := h.2.1
      have := h.1
      omega

/-! ### walks over a list or a tuple -/
def Sq (K : PySem.W.Frag) (H : Hp) (a : Addr) (xs : List V) : Prop := SqL K H a xs ∨ SqT K H a xs
def iSeq (K : PySem.W.Frag) (tl : TE) : TI := fun σ H R => tl σ H fun x H1 => ∃ a, x = .ref a ∧ (((∃ xs, SqL K H1 a xs) ∧ R (Itl K a) H1) ∨ ((∃ xs, SqT K H1 a xs) ∧ R (Itt K a) H1))
/-- the iterator that was just laid is no one's -/
theorem lone {X : Cx} {pins : List (Addr × Obj)} {σ : L2.St} {H : Hp} {s : Shared} (I : Inv X pins σ H s) : ∀ b ∈ [s.heap.objs.size], FpOk X pins H b := fun b hb => by
  rw [List.mem_singleton.mp hb]
  exact I.fpOk (H' := H) (Nat.le_refl _) (I.hok.fresh (Nat.le_refl _))
theorem pi_seq {X : Cx} {tg l : Expr} {tl : TE} (walked : PE X l tl) : PI X tg l (iSeq X.K tl) := by
  constructor
  intro pins s σ H R I h
  refine thn (walked.run pins s σ H _ I h) fun u s1 had => ?_
  obtain ⟨_, H1, J, rel, a, rfl, had⟩ := had
  cases rel
  have laid : ∀ o, Inv X pins σ H1 { s1 with heap := s1.heap.push o } := fun o => J.kept (t' := s1.toks) fun _ _ e => Heap.get?_push_of_some _ e
  rcases had with ⟨⟨xs, hq⟩, q⟩ | ⟨⟨xs, hq⟩, q⟩
  · obtain ⟨its, _, isL, _⟩ := J.list hq
    exact wpAny_pyIter_list isL.isList ⟨_, _, _, _, H1, rfl, laid _, turn_list a _, ⟨_, Heap.get?_push_size _ rfl, rfl, rfl⟩, lone J, q⟩
  · obtain ⟨its, _, isT, _⟩ := J.tuple hq
    exact wpAny_pyIter_tuple (items := its.toArray) isT ⟨_, _, _, _, H1, rfl, laid _, turn_tuple a _, ⟨_, Heap.get?_push_size _ rfl, rfl, rfl⟩, lone J, q⟩
/-- the walked thing stands as it stood -/
def SqTo (K : PySem.W.Frag) (H H' : Hp) (a : Addr) (xs : List V) : Prop := (SqL K H a xs → SqL K H' a xs) ∧ (SqT K H a xs → SqT K H' a xs)
theorem SqTo.refl {K : PySem.W.Frag} {H : Hp} {a : Addr} {xs : List V} : SqTo K H H a xs := ⟨fun h => h, fun h => h⟩
theorem same_t {K : PySem.W.Frag} {H H' : Hp} {a : Addr} {xs : List V} (s : Same H H') (h : SqT K H a xs) : SqT K H' a xs :=
  h.elim (fun r => .inl (r.elim (fun e => .inl (s a _ e)) fun ⟨o, e⟩ => .inr ⟨o, s a _ e⟩)) .inr
theorem SqTo.same {K : PySem.W.Frag} {H H' : Hp} {a : Addr} {xs : List V} (s : Same H H') : SqTo K H H' a xs := ⟨s.seq, same_t s⟩
theorem Sq.same {K : PySem.W.Frag} {H H' : Hp} {a : Addr} {xs : List V} (h : Sq K H a xs) (s : Same H H') : Sq K H' a xs := h.elim (fun h => .inl (s.seq h)) fun h => .inr (same_t s h)
theorem Sq.list {K : PySem.W.Frag} {H : Hp} {a : Addr} {xs : List V} (h : H a = some (.lst xs)) : Sq K H a xs := .inl (SqL.of h)
theorem Sq.tup {K : PySem.W.Frag} {H : Hp} {a : Addr} {xs : List V} (h : H a = some (.tup xs)) : Sq K H a xs := .inr (.inl (.inl h))
abbrev ForR (J : It) (g : TG) (tb : TS) (D : Ends) (σ : L2.St) (H1 : Hp) : Prop := ∃ W : Nat → Nat → L2.St → Hp → Prop, (∃ m, W 0 m σ H1) ∧ ∀ i m σ H, W i m σ H →
  (J.stop i H ∧ D.nx σ H) ∨ (J.go i H ∧ ∃ N : L2.St → Hp → Prop, (∀ σ' H', N σ' H' → ∃ m', m' < m ∧ W (i + 1) m' σ' H') ∧ ∀ x H', J.yld i H x H' → g x σ H' fun σ2 H2 => tb { D with nx := N, ct := N, bk := D.nx } σ2 H2)
theorem for_seq {K : PySem.W.Frag} {a : Addr} {xs : List V} {g : TG} {tb : TS} {D : Ends} {σ : L2.St} {H1 : Hp} (hq : Sq K H1 a xs) (Pv : Nat → L2.St → Hp → Prop) (h0 : Pv 0 σ H1)
    (hl : ∀ i σ H', i ≤ xs.length → Pv i σ H' → SqTo K H1 H' a xs)
    (turn : ∀ i x σ H, xs[i]? = some x → Pv i σ H → g x σ H fun σ2 H2 => tb { D with nx := Pv (i + 1), ct := Pv (i + 1), bk := D.nx } σ2 H2) (fin : ∀ σ H, Pv xs.length σ H → D.nx σ H) :
    ((∃ xs, SqL K H1 a xs) ∧ ForR (Itl K a) g tb D σ H1) ∨ ((∃ xs, SqT K H1 a xs) ∧ ForR (Itt K a) g tb D σ H1) := by
  rcases hq with h | h
  · exact .inl ⟨⟨xs, h⟩, for_list (xs := xs) Pv h0 (fun i σ H' hi p => (hl i σ H' hi p).1 h) turn fin⟩
  · exact .inr ⟨⟨xs, h⟩, for_tup (xs := xs) Pv h0 (fun i σ H' hi p => (hl i σ H' hi p).2 h) turn fin⟩

/-! ### pairs as data -/
def pairD (p : Int × Int) : PyData := .tuple [.int p.1, .int p.2]
theorem dp_prs {K : PySem.W.Frag} {H : Hp} : ∀ {us : List V} {ps : List (Int × Int)}, Prs H us ps → DpAll K H us (ps.map pairD)
  | [], [], _ => .nil
  | [], _ :: _, h => nomatch h.1
  | _ :: _, [], h => nomatch h.1
  | u :: us, p :: ps, h => by
    obtain ⟨a, e1, e2⟩ := h.2 0 p rfl
    have eu : u = .ref a := Option.some.inj e1
    subst eu
    refine .cons (.tup (.inl (.inl e2)) (.cons (.int _) (.cons (.int _) .nil))) (dp_prs ⟨Nat.succ.inj h.1, fun i q e => ?_⟩)
    obtain ⟨b, f1, f2⟩ := h.2 (i + 1) q e
    exact ⟨b, f1, f2⟩
theorem lay_prs : ∀ ps : List (Int × Int), PyData.canLayAll0 (ps.map pairD) = true
  | [] => by simp only [List.map_nil, PyData.canLayAll0]
  | p :: r => by
    rw [List.map_cons, PyData.canLayAll0, lay_prs r]
    simp [pairD, PyData.canLay0, PyData.canLayAll0]
theorem depth_prs : ∀ ps : List (Int × Int), PyData.depthAll (ps.map pairD) ≤ 1
  | [] => by simp only [List.map_nil, PyData.depthAll]; omega
  | p :: r => by
    rw [List.map_cons, PyData.depthAll]  -- a pair, then the rest
    have := depth_prs r
    simp [pairD, PyData.depth, PyData.depthAll]
    omega
theorem shaped_prs (ps : List (Int × Int)) : SeqAt.shaped (PyData.list (ps.map pairD)) = true := by
  unfold SeqAt.shaped
  rw [PyData.canLay0, lay_prs, PyData.depth, Bool.true_and]
  exact decide_eq_true (by have := depth_prs ps; omega)
theorem eqv_prs (ps : List (Int × Int)) : PyData.eqv (PyData.list (ps.map pairD)) (PyData.list (ps.map pairD)) = true := SeqAt.eqv_refl _ (by rw [PyData.canLay0]; exact lay_prs ps)
theorem tabG_tabbed {Pt Pu : Addr} {H H2 : Hp} (g : GxR.TabG H Pu) (x : GxR.Tabbed Pt H H2) : GxR.TabG H2 Pu := by
  by_cases e : Pu = Pt
  · rw [e]; exact x.1
  · obtain ⟨ps, h, r⟩ := g
    exact ⟨ps, by rw [x.2 _ e]; exact h, r⟩

theorem Kp.free {H H' : Hp} {d c l : Addr} {t' : Int} (k : Kp d c H H') (S' : StAt H' d c t') (n : H' l = none) : H l = none := by
  cases e : H l with
  | none => rfl
  | some o =>
    obtain ⟨cs1, ec1, _⟩ := S'.cells
    have z := k l o (ne_of_none S'.dict n).symm (ne_of_none ec1 n).symm e
    rw [n] at z
    cases z
theorem StAt.off {H : Hp} {d c l : Addr} {t : Int} (S : StAt H d c t) (n : H l = none) : l ≠ d ∧ l ≠ c := by
  obtain ⟨cs1, ec1, _⟩ := S.cells
  exact ⟨(ne_of_none S.dict n).symm, (ne_of_none ec1 n).symm⟩
/-- no whole number among these: so it's not the draws' cells -/
def NoInt (xs : List V) : Prop := ∀ x ∈ xs, ∀ i, x ≠ .int i
theorem Kp.lst {H H' : Hp} {d c a : Addr} {t : Int} {xs : List V} (k : Kp d c H H') (S : StAt H d c t) (e : H a = some (.lst xs)) (h : NoInt xs) : H' a = some (.lst xs) := by
  obtain ⟨cs, ec, hne, _⟩ := S.cells
  refine k a _ (fun z => ?_) (fun z => ?_) e
  · rw [z, S.dict] at e
    cases e
  · rw [z, ec] at e
    have e' : cs.map V.int = xs := HO.lst.inj (Option.some.inj e)
    cases cs with
    | nil => exact hne rfl
    | cons n r => exact h (.int n) (e' ▸ List.mem_cons_self ..) n rfl
theorem Kp.tup {H H' : Hp} {d c a : Addr} {t : Int} {xs : List V} (k : Kp d c H H') (S : StAt H d c t) (e : H a = some (.tup xs)) : H' a = some (.tup xs) := k.at S e (fun _ z => nomatch z) (fun _ z => nomatch z)
theorem noInt_strs (xs : List Str) : NoInt (xs.map V.str) := fun x hx i e => by
  obtain ⟨y, _, rfl⟩ := List.mem_map.mp hx
  cases e
theorem noInt_prs {H : Hp} {us : List V} {ps : List (Int × Int)} (h : Prs H us ps) : NoInt us := fun x hx i e => by
  obtain ⟨j, hj, e1⟩ := List.getElem_of_mem hx
  obtain ⟨p, a, _, rfl, _⟩ := prs_at h (by rw [List.getElem?_eq_getElem hj, e1])
  cases e

/-- a text of one sign -/
def sgS (c : Nat) : Str := ⟨#[c]⟩
def sgn (c : Nat) : V := .str (sgS c)
def spNames : Sp := fun vs H Q _ => ∃ (d c : Addr) (t m : Int), vs = [.ref d, .int m] ∧ StAt H d c t ∧ t + 100 < 2 ^ 60 ∧ 0 ≤ m ∧ m ≤ 20 ∧
  ∀ (l : Addr) (xs : List Str) (t' : Int) H', H l = none → H' l = some (.lst (xs.map V.str)) → (∀ x ∈ xs, PyData.strOk x = true) → (xs.length : Int) = m → xs.Nodup → t ≤ t' → t' ≤ t + 20 → StAt H' d c t' → Kp d c H H' → Q (.ref l) H'
theorem join_small {cs : List Nat} (h : cs.length ≤ 10) : ((cs.map sgS).map (·.length)).sum + (cs.map sgS).length * ("" : Str).length ≤ 16777216 := by
  have e : ((cs.map sgS).map (·.length)).sum = cs.length := by
    induction cs with
    | nil => rfl
    | cons c r ih =>
      rw [List.map_cons, List.map_cons, List.sum_cons, ih (by rw [List.length_cons] at h; omega), List.length_cons]
      show 1 + r.length = r.length + 1
      omega
  rw [e, show ("" : Str).length = 0 from rfl, Nat.mul_zero]
  omega
theorem joinL_ones : ∀ cs : List Nat, TL.joinL [] (cs.map fun c => [c]) = cs
  | [] => rfl
  | [_] => rfl
  | c :: c2 :: r => by
    have ih := joinL_ones (c2 :: r)
    show [c] ++ ([] ++ TL.joinL [] ((c2 :: r).map fun c => [c])) = _
    rw [ih]
    rfl
theorem join_ok {cs : List Nat} (h : ∀ c ∈ cs, c < 1114112) : PyData.strOk (Txt.join "" (cs.map sgS)) = true := by
  have e : Txt.join "" (cs.map sgS) = SX.S cs := by
    have z := SX.join_S [] (cs.map fun c => [c])
    rw [joinL_ones, List.map_map] at z
    exact z
  rw [e]
  show (Array.all _ _) = true
  rw [Array.all_eq_true']
  intro c hc
  exact decide_eq_true (h c (by simpa using hc))
/-- words that are unlike at one sign -/
def Spelt (abc : Str) (N fi sv : Int) (js : Nat) (xs : List Str) : Prop := ∀ (k : Nat) x, xs[k]? = some x → ∃ (cs : List Nat) (ch : Nat), x = SX.S cs ∧ cs[js]? = some ch ∧ atI abc.cps.toList ((fi + sv * (k : Int)) % N) = some ch
theorem join_eq (cs : List Nat) : Txt.join "" (cs.map sgS) = SX.S cs := by
  have z := SX.join_S [] (cs.map fun c => [c])
  rw [joinL_ones, List.map_map] at z
  exact z
theorem Spelt.snoc {abc : Str} {N fi sv : Int} {js i : Nat} {xs : List Str} {cs : List Nat} {ch : Nat} (h : Spelt abc N fi sv js xs) (hl : xs.length = i) (e1 : cs[js]? = some ch) (e2 : atI abc.cps.toList ((fi + sv * (i : Int)) % N) = some ch) : Spelt abc N fi sv js (xs ++ [Txt.join "" (cs.map sgS)]) := fun k x e => by
  by_cases hk : k < xs.length
  · rw [List.getElem?_append_left hk] at e
    exact h k x e
  · rw [List.getElem?_append_right (by omega)] at e
    have hz : k - xs.length = 0 := by
      cases hq : k - xs.length with
      | zero => rfl
      | succ n => rw [hq] at e; cases e
    rw [hz] at e
    cases e
    have hki : k = i := by omega
    subst hki
    exact ⟨cs, ch, join_eq cs, e1, e2⟩
theorem Spelt.nodup {abc : Str} {N fi sv : Int} {js : Nat} {xs : List Str} (h : Spelt abc N fi sv js xs) (hN : 0 < N) (hl : (abc.cps.toList.length : Int) = N) (hn : abc.cps.toList.Nodup) (far : ∀ k k' : Nat, k < xs.length → k' < xs.length → (fi + sv * (k : Int)) % N = (fi + sv * (k' : Int)) % N → k = k') : xs.Nodup := by
  refine List.pairwise_iff_getElem.mpr fun i j hi hj hij ex => ?_
  obtain ⟨cs1, c1, e1, f1, g1⟩ := h i xs[i] (List.getElem?_eq_getElem hi)
  obtain ⟨cs2, c2, e2, f2, g2⟩ := h j xs[j] (List.getElem?_eq_getElem hj)
  rw [e1, e2] at ex
  have ec : cs1 = cs2 := SX.S_inj ex
  rw [ec, f2] at f1
  have ecc : c2 = c1 := Option.some.inj f1
  rw [← ecc] at g1
  obtain ⟨a, ha⟩ := Int.eq_ofNat_of_zero_le (Int.emod_nonneg (fi + sv * (i : Int)) (show N ≠ 0 by omega))
  obtain ⟨b, hb⟩ := Int.eq_ofNat_of_zero_le (Int.emod_nonneg (fi + sv * (j : Int)) (show N ≠ 0 by omega))
  have la := Int.emod_lt_of_pos (fi + sv * (i : Int)) hN
  have lb := Int.emod_lt_of_pos (fi + sv * (j : Int)) hN
  rw [ha] at g1 la
  rw [hb] at g2 lb
  have a1 : a < abc.cps.toList.length := by omega
  have b1 : b < abc.cps.toList.length := by omega
  have g1' : abc.cps.toList[a]? = some c2 := by
    have z := atI_nat (List.getElem?_eq_getElem a1)
    rw [z] at g1
    rw [List.getElem?_eq_getElem a1]
    exact g1
  have g2' : abc.cps.toList[b]? = some c2 := by
    have z := atI_nat (List.getElem?_eq_getElem b1)
    rw [z] at g2
    rw [List.getElem?_eq_getElem b1]
    exact g2
  have eab : a = b := (List.getElem?_inj a1 hn).mp (g1'.trans g2'.symm)
  have := far i j (by omega) hj (by rw [ha, hb, eab])
  omega
/-! ### _law_names -/

theorem snoc_cases {α : Type} (l : List α) : l = [] ∨ ∃ l' x, l = l' ++ [x] := by
  rcases List.eq_nil_or_concat l with h | ⟨l', x, h⟩
  · exact .inl h
  · exact .inr ⟨l', x, by rw [h]; simp⟩
theorem _root_.GP.Prs.last {H : Hp} {us : List V} {ps : List (Int × Int)} {p : Int × Int} (h : Prs H us (ps ++ [p])) : ∃ us' T, us = us' ++ [.ref T] ∧ H T = some (.tup [.int p.1, .int p.2]) ∧ Prs H us' ps := by
  have hl := h.1
  rw [List.length_append] at hl
  rcases snoc_cases us with e | ⟨us', x, e⟩
  · rw [e] at hl
    simp at hl
  · subst e
    rw [List.length_append] at hl
    have hl' : us'.length = ps.length := Nat.add_right_cancel hl
    obtain ⟨T, e1, e2⟩ := h.2 ps.length p (by rw [List.getElem?_append_right (Nat.le_refl _), Nat.sub_self]; rfl)
    rw [List.getElem?_append_right (by omega), hl', Nat.sub_self] at e1
    refine ⟨us', T, by rw [Option.some.inj e1], e2, hl', fun i q eq => ?_⟩
    have hi : i < ps.length := (List.getElem?_eq_some_iff.mp eq).1
    obtain ⟨b, f1, f2⟩ := h.2 i q (by rw [List.getElem?_append_left hi]; exact eq)
    rw [List.getElem?_append_left (by omega)] at f1
    exact ⟨b, f1, f2⟩
theorem eqv_pr_nil (ps : List (Int × Int)) : PyData.eqv (PyData.list (ps.map pairD)) (PyData.list []) = ps.isEmpty := by
  cases ps with
  | nil => simp [PyData.eqv, PyData.eqvAll]
  | cons p r => simp [PyData.eqv, PyData.eqvAll]
def rIxS (K : PySem.W.Frag) : R2 := fun x y H Q => ∃ p xs i v, x = .ref p ∧ y = .int i ∧ Sq K H p xs ∧ atI xs i = some v ∧ Q v H
theorem ix_seq {X : Cx} : IxR X (rIxS X.K) := by
  intro value slice pins s σ H x y v u Q I rx ry h hs
  obtain ⟨p, xs, i, z, e1, e2, hq, he, q⟩ := h
  rcases hq with hq | hq
  · exact ix_list value slice pins s σ H x y v u Q I rx ry ⟨p, xs, i, z, e1, e2, hq, he, q⟩ hs
  · exact ix_tup value slice pins s σ H x y v u Q I rx ry ⟨p, xs, i, z, e1, e2, hq, he, q⟩ hs

/-! ### the table of the def that holds the generator expression -/
theorem tab_at {Pt : Addr} {H H2 : Hp} {b : Addr} {o : HO} (g : GxR.TabG H Pt) (t : GxR.Tabbed Pt H H2) (e : H b = some o) (h : ∀ q, o ≠ .tbl q) : H2 b = some o := by
  obtain ⟨ps, hP, _⟩ := g
  rw [t.2 b (ne_of e hP (h ps))]
  exact e
theorem StAt.tab {Pt : Addr} {H H2 : Hp} {d c : Addr} {t : Int} (S : StAt H d c t) (g : GxR.TabG H Pt) (x : GxR.Tabbed Pt H H2) : StAt H2 d c t :=
  ⟨tab_at g x S.dict (fun _ z => nomatch z), let ⟨cs, e, r⟩ := S.cells; ⟨cs, tab_at g x e (fun _ z => nomatch z), r⟩, S.pos⟩
theorem _root_.GP.Prs.tab {Pt : Addr} {H H2 : Hp} {vs : List V} {ps : List (Int × Int)} (h : Prs H vs ps) (g : GxR.TabG H Pt) (x : GxR.Tabbed Pt H H2) : Prs H2 vs ps :=
  ⟨h.1, fun i p e => let ⟨a, e1, e2⟩ := h.2 i p e; ⟨a, e1, tab_at g x e2 (fun _ z => nomatch z)⟩⟩
theorem tabG_same {Pt : Addr} {H H' : Hp} (g : GxR.TabG H Pt) (s : Same H H') : GxR.TabG H' Pt := let ⟨ps, e, r⟩ := g; ⟨ps, s _ _ e, r⟩
theorem tabG_kp {Pt : Addr} {H H' : Hp} {d c : Addr} {t : Int} (g : GxR.TabG H Pt) (S : StAt H d c t) (k : Kp d c H H') : GxR.TabG H' Pt := let ⟨ps, e, r⟩ := g; ⟨ps, k.at S e (fun _ z => nomatch z) (fun _ z => nomatch z), r⟩
theorem tabG_upd {Pt : Addr} {H : Hp} {l : Addr} {o u : HO} (g : GxR.TabG H Pt) (e : H l = some o) (h : ∀ q, o ≠ .tbl q) : GxR.TabG (upd H l u) Pt := let ⟨ps, eP, r⟩ := g; ⟨ps, by rw [upd_ne (ne_of e eP (h ps)).symm]; exact eP, r⟩
theorem tabbed_free {Pt : Addr} {H H2 : Hp} {p : Addr} (g : GxR.TabG H Pt) (x : GxR.Tabbed Pt H H2) (h : H2 p = none) : H p = none := by
  obtain ⟨ps, e, _⟩ := x.1
  rw [← x.2 p (fun z => by rw [z, e] at h; cases h)]
  exact h

/-- a walk over what stood before a list was begun -/
theorem for_seqS {K : PySem.W.Frag} {a : Addr} {xs : List V} {g : TG} {tb : TS} {D : Ends} {σ : L2.St} {H0 H1 : Hp} (hq : Sq K H0 a xs) (s1 : Same H0 H1) (Pv : Nat → L2.St → Hp → Prop) (h0 : Pv 0 σ H1)
    (hl : ∀ i σ H', Pv i σ H' → Same H0 H')
    (turn : ∀ i x σ H, xs[i]? = some x → Pv i σ H → g x σ H fun σ2 H2 => tb { D with nx := Pv (i + 1), ct := Pv (i + 1), bk := D.nx } σ2 H2) (fin : ∀ σ H, Pv xs.length σ H → D.nx σ H) :
    ((∃ xs, SqL K H1 a xs) ∧ ForR (Itl K a) g tb D σ H1) ∨ ((∃ xs, SqT K H1 a xs) ∧ ForR (Itt K a) g tb D σ H1) := by
  rcases hq with h | h
  · exact .inl ⟨⟨xs, s1.seq h⟩, for_list (xs := xs) Pv h0 (fun i σ H' _ p => (hl i σ H' p).seq h) turn fin⟩
  · exact .inr ⟨⟨xs, same_t s1 h⟩, for_tup (xs := xs) Pv h0 (fun i σ H' _ p => same_t (hl i σ H' p) h) turn fin⟩

abbrev LcR (J : It) (g : TG) (tt : TT) (te : TE) (vs : List Nat) (σ : L2.St) (D : Addr) (Qd : Addr → Hp → Prop) (H1 : Hp) : Prop := ∃ W : Nat → Nat → Hp → Prop, (∃ m, W 0 m (upd H1 D (.lst []))) ∧ ∀ i m H, W i m H →
  (J.stop i H ∧ Qd D H) ∨ (J.go i H ∧ ∃ Nx : Hp → Prop, (∀ H', Nx H' → ∃ m', m' < m ∧ W (i + 1) m' H') ∧ ∀ x H', J.yld i H x H' → g x (wipe σ vs) H' fun σ2 H2 => wipe σ2 vs = wipe σ vs ∧ tt σ2 H2 fun b H3 => if b = true then
    te σ2 H3 fun y H4 => ∃ acc, H4 D = some (.lst acc) ∧ acc.length < sizeLine ∧ Nx (upd H4 D (.lst (acc ++ [y]))) else Nx H3)
theorem lc_seq {K : PySem.W.Frag} {a : Addr} {xs : List V} {g : TG} {tt : TT} {te : TE} {vs : List Nat} {σ : L2.St} {H1 : Hp} {Qd : Addr → Hp → Prop} (hq : Sq K H1 a xs) (Pv : Addr → Nat → Hp → Prop) (h0 : ∀ D, H1 D = none → Pv D 0 (upd H1 D (.lst [])))
    (still : ∀ D i H', H1 D = none → Pv D i H' → SqTo K H1 H' a xs)
    (turn : ∀ D i x H', H1 D = none → xs[i]? = some x → Pv D i H' → g x (wipe σ vs) H' fun σ2 H2 => wipe σ2 vs = wipe σ vs ∧ tt σ2 H2 fun b H3 =>
      if b = true then te σ2 H3 fun y H4 => ∃ acc, H4 D = some (.lst acc) ∧ acc.length < sizeLine ∧ Pv D (i + 1) (upd H4 D (.lst (acc ++ [y]))) else Pv D (i + 1) H3) (fin : ∀ D H', H1 D = none → Pv D xs.length H' → Qd D H') :
    ((∃ xs, SqL K H1 a xs) ∧ ∀ D, H1 D = none → LcR (Itl K a) g tt te vs σ D Qd H1) ∨ ((∃ xs, SqT K H1 a xs) ∧ ∀ D, H1 D = none → LcR (Itt K a) g tt te vs σ D Qd H1) := by
  rcases hq with h | h
  · exact .inl ⟨⟨xs, h⟩, fun D nD => lc_list (xs := xs) (Pv D) (h0 D nD) (fun i H' _ p => (still D i H' nD p).1 h) (fun i x H' e p => turn D i x H' nD e p) (fun H' p => fin D H' nD p)⟩
  · exact .inr ⟨⟨xs, h⟩, fun D nD => lc_tup (xs := xs) (Pv D) (h0 D nD) (fun i H' _ p => (still D i H' nD p).2 h) (fun i x H' e p => turn D i x H' nD e p) (fun H' p => fin D H' nD p)⟩

/-! ### what stands where: pairs in a list or a tuple -/
def PrA (K : PySem.W.Frag) (H : Hp) (a : Addr) (ps : List (Int × Int)) : Prop := ∃ us, Sq K H a us ∧ Prs H us ps
def LsA (H : Hp) (a : Addr) (ps : List (Int × Int)) : Prop := ∃ us, H a = some (.lst us) ∧ Prs H us ps
theorem LsA.pr {K : PySem.W.Frag} {H : Hp} {a : Addr} {ps : List (Int × Int)} (h : LsA H a ps) : PrA K H a ps := let ⟨us, e, p⟩ := h; ⟨us, Sq.list e, p⟩
theorem LsA.same {H H' : Hp} {a : Addr} {ps : List (Int × Int)} (h : LsA H a ps) (s : Same H H') : LsA H' a ps := let ⟨us, e, p⟩ := h; ⟨us, s _ _ e, p.same s⟩
theorem PrA.same {K : PySem.W.Frag} {H H' : Hp} {a : Addr} {ps : List (Int × Int)} (h : PrA K H a ps) (s : Same H H') : PrA K H' a ps := let ⟨us, e, p⟩ := h; ⟨us, e.same s, p.same s⟩
theorem LsA.nil {H : Hp} {a : Addr} (e : H a = some (.lst [])) : LsA H a [] := ⟨[], e, Prs.nil⟩
theorem LsA.dp {K : PySem.W.Frag} {H : Hp} {a : Addr} {ps : List (Int × Int)} (h : LsA H a ps) : Dp K H (.ref a) (.list (ps.map pairD)) := let ⟨_, e, p⟩ := h; .lst (SqL.of e) (dp_prs p)

/-! ### things as data, all of it tracked -/
inductive Dat (H : Hp) : V → PyData → Prop
  | non : Dat H .non .none
  | bl (b : Bool) : Dat H (.bl b) (.bool b)
  | int (i : Int) : Dat H (.int i) (.int i)
  | str (x : Str) : Dat H (.str x) (.str x)
  | lst {a : Addr} {xs : List V} {ds : List PyData} : H a = some (.lst xs) → xs.length = ds.length → (∀ (i : Nat) x d, xs[i]? = some x → ds[i]? = some d → Dat H x d) → Dat H (.ref a) (.list ds)
  | tup {a : Addr} {xs : List V} {ds : List PyData} : H a = some (.tup xs) → xs.length = ds.length → (∀ (i : Nat) x d, xs[i]? = some x → ds[i]? = some d → Dat H x d) → Dat H (.ref a) (.tuple ds)
theorem Dat.same {H H' : Hp} {v : V} {d : PyData} (h : Dat H v d) (s : Same H H') : Dat H' v d := by
  induction h with
  | non => exact .non
  | bl b => exact .bl b
  | int i => exact .int i
  | str x => exact .str x
  | lst e l _ ih => exact .lst (s _ _ e) l ih
  | tup e l _ ih => exact .tup (s _ _ e) l ih
/-- at most so deep, no longer than these lines -/
def Sm : Nat → PyData → Prop
  | _, .none => True
  | _, .bool _ => True
  | _, .int _ => True
  | _, .str _ => True
  | n + 1, .list ds => ds.length ≤ 900 ∧ ∀ d ∈ ds, Sm n d
  | n + 1, .tuple ds => ds.length ≤ 900 ∧ ∀ d ∈ ds, Sm n d
  | _, _ => False
/-- no list, no tuple -/
def Flat (d : PyData) : Prop := d = .none ∨ (∃ b, d = .bool b) ∨ (∃ i, d = .int i) ∨ ∃ x, d = .str x
theorem Sm.cases {n : Nat} {d : PyData} (h : Sm (n + 1) d) : Flat d ∨ (∃ ds, d = .list ds ∧ ds.length ≤ 900 ∧ ∀ d ∈ ds, Sm n d) ∨ ∃ ds, d = .tuple ds ∧ ds.length ≤ 900 ∧ ∀ d ∈ ds, Sm n d := by
  cases d <;> first | exact .inl (.inl rfl) | exact .inl (.inr (.inl ⟨_, rfl⟩)) | exact .inl (.inr (.inr (.inl ⟨_, rfl⟩))) | exact .inl (.inr (.inr (.inr ⟨_, rfl⟩))) | exact .inr (.inl ⟨_, rfl, h.1, h.2⟩) | exact .inr (.inr ⟨_, rfl, h.1, h.2⟩) | exact h.elim
theorem Sm.flat {d : PyData} (h : Sm 0 d) : Flat d := by
  cases d <;> first | exact .inl rfl | exact .inr (.inl ⟨_, rfl⟩) | exact .inr (.inr (.inl ⟨_, rfl⟩)) | exact .inr (.inr (.inr ⟨_, rfl⟩)) | exact h.elim
theorem walk_zipTs {K : PySem.W.Frag} {a b : Addr} {xs ys : List V} {n : Nat} (h1 : xs.length = n) (h2 : ys.length = n) : Walk (RZ.ItzT K a b) n (fun H => SqT K H a xs ∧ SqT K H b ys) (YPair (fun i => xs[i]?) (fun i => ys[i]?)) where
  goes := fun i _ lt q => ⟨xs, ys, _, _, q.1, q.2, List.getElem?_eq_getElem (h1.symm ▸ lt), List.getElem?_eq_getElem (h2.symm ▸ lt)⟩
  stops := fun _ q => ⟨xs, ys, q.1, q.2, .inl (Nat.le_of_eq h1)⟩
  yields := fun i _ _ _ _ q ⟨T, x, z, e1, e2, e3, e4, e5⟩ => ⟨T, x, z, e1, e2, e3, e4 xs q.1, e5 ys q.2⟩
theorem prs_dat {H : Hp} {us : List V} {ps : List (Int × Int)} (h : Prs H us ps) : ∀ (i : Nat) x d, us[i]? = some x → (ps.map pairD)[i]? = some d → Dat H x d := fun i x d e1 e2 => by
  obtain ⟨p, a, ep, rfl, ea⟩ := prs_at h e1
  rw [List.getElem?_map, ep] at e2
  have ed : pairD p = d := Option.some.inj e2
  rw [← ed]
  refine .tup ea rfl fun j y d f1 f2 => ?_
  have hj : j < 2 := (List.getElem?_eq_some_iff.mp f1).1
  have : j = 0 ∨ j = 1 := by omega
  rcases this with rfl | rfl
  · cases f1; cases f2; exact .int _
  · cases f1; cases f2; exact .int _
theorem sm_prs {ps : List (Int × Int)} (h : ps.length ≤ 900) : Sm 2 (.list (ps.map pairD)) := by
  refine ⟨by rw [List.length_map]; exact h, fun d hd => ?_⟩
  obtain ⟨p, _, rfl⟩ := List.mem_map.mp hd
  exact ⟨by show 2 ≤ 900; decide, fun d hd => by
    rcases List.mem_cons.mp hd with e | e
    · rw [e]; trivial
    · rw [List.mem_singleton.mp e]; trivial⟩
theorem ints_dat {H : Hp} {a : Addr} {ns : List Int} (e : H a = some (.lst (ns.map V.int))) : Dat H (.ref a) (.list (ns.map PyData.int)) := .lst e (by rw [List.length_map, List.length_map]) fun i x d e1 e2 => by
  rw [List.getElem?_map] at e1 e2
  cases h : ns[i]? with
  | none => rw [h] at e1; cases e1
  | some n =>
    rw [h] at e1 e2
    cases e1
    cases e2
    exact .int n
theorem sm_ints {ns : List Int} (h : ns.length ≤ 900) : Sm 1 (.list (ns.map PyData.int)) := by
  refine ⟨by rw [List.length_map]; exact h, fun d hd => ?_⟩
  obtain ⟨p, _, rfl⟩ := List.mem_map.mp hd
  trivial

def SqH (H : Hp) (a : Addr) (xs : List V) : Prop := H a = some (.lst xs) ∨ H a = some (.tup xs)

/-! ### defs that are called while nothing is being shown: str of lists within lists -/
/-- a def keeps its promise where nothing is being shown -/
structure FnG (P : Program) (w : World) (K : PySem.W.Frag) (mg : Str → Option Value) (base : Heap) (CX : CXT) (k : Nat) (f : Addr) (fd : FuncData) (ps : List Str) (sp : Sp) : Prop where
  len : ∀ (vs : List V) (H : Hp) (Q : VK) (E : XK), sp vs H Q E → vs.length = ps.length
  run : ∀ (A : Around) (outer : List Env) (s : Shared) (H : Hp) (args : Args) (us : List Value) (vs : List V) (Q : VK) (E : XK), A.guards = some [] → Room k A → Env0 P w K mg base A outer s H → BindsTo s fd args (ps.zip us) → Vals vs us → sp vs H Q E → codeAny (model P w) A (Code.call (Value.ref f) args) (CR CX outer P w H s Q E) s
section
variable {CX : CXT} {P : Program} {w : World} {K : PySem.W.Frag} {mg : Str → Option Value} {base : Heap} {k : Nat}
theorem FnG.of {f : Addr} {fd : FuncData} {ps : List Str} {sp : Sp} (F : FnOk P w K mg base CX k f fd ps sp) : FnG P w K mg base CX k f fd ps sp :=
  ⟨F.len, fun A outer s H args us vs Q E _ hr e0 hb r hsp => F.run A outer s H args us vs Q E hr e0 hb r hsp⟩
theorem fn_ofG {f : Addr} {name qual : Str} {params : Arguments} {body : List Stmt} {scope : Scope} {dV kV doc pm cdv ct oc : Value} {an od : Option Addr} {osl : Array (Option Value)} {N ps : List Str} {sp : Sp}
    (lk : List.lookup f K = some { cls := oc, dict := od, data := Data.func (PySem.W.fnOf name qual params body scope dV kV doc pm an cdv ct), slots := osl }) (hcd : PySem.W.codeIn K cdv qual = true) (S : FnScope N ps scope)
    (len : ∀ (vs : List V) (H : Hp) (Q : VK) (E : XK), sp vs H Q E → vs.length = ps.length)
    (hbody : ∀ (A : Around) (outer : List Env) (s : Shared) (H : Hp) (vs : List V) (Q : VK) (E : XK), A.guards = some [] → Room k (A.deeper (PyProof.Rows.envOfC qual scope s.heap.objs.size f cdv)) → sp vs H Q E →
      ∃ t, PSs (cxOf CX P w K mg base N qual scope f cdv A outer s H E) body t ∧ t { nx := fun _ H' => Q V.non H', rt := Q } (L2.start N vs) H) :
    FnG P w K mg base CX (k + 1) f (PySem.W.fnOf name qual params body scope dV kV doc pm an cdv ct) ps sp := by
  refine ⟨len, fun A outer s H args us vs Q E hgd hr e0 hb r hsp => ?_⟩
  have hl := len vs H Q E hsp
  have KX := PySem.W.Frag.In.keeps e0.mod.kin fun b o e => (e0.bs b o e).1
  have lim := Heap.NoLimit.keeps e0.mod.nolimit fun b o e => (e0.bs b o e).1
  refine codeAny_call_function (Room.depth hr) (KX f _ lk) rfl S.co S.gen rfl (PySem.W.codeRec_of KX hcd) (hb (model P w) A.in1 _ _ (wpAny_newFunctionEnv_cells S.kind (fun x hy => ?_) fun env he s1 x => ?_))
  · obtain ⟨n, v⟩ := x
    rcases S.par n (List.of_mem_zip hy).1 with q | q
    · exact .inl q
    · exact .inr ⟨q, PySem.W.cellsFrom_some scope.names _ [] (.inl q)⟩
  · subst he
    refine ⟨Heap.NoLimit.keeps lim x.toInCall.keep, codeAny_func ?_⟩
    obtain ⟨t, ht, hq⟩ := hbody A outer s H vs Q E hgd (Room.deeper hr _) hsp
    have I := inv_start (CX := CX) (E := E) S hr.hd e0 hl r x
    refine wpAny_mono (ht.run [] s1 (L2.start N vs) H _ I hq) (fun fl s' hs => ?_) (fun e s' hs => hs)
    cases fl with
    | ret u =>
      obtain ⟨v, σ', H', J, rv, q⟩ := hs
      exact ⟨v, H', J.os, J.bare, J.base, J.hok, rv, q⟩
    | next =>
      obtain ⟨σ', H', J, q⟩ := hs
      exact ⟨V.non, H', J.os, J.bare, J.base, J.hok, rfl, q⟩
    | _ =>
      obtain ⟨_, _, _, q⟩ := hs
      exact q.elim
theorem Fun_okG {x qual : Str} {st : Stmt} {f : Addr} {fd : FuncData} {N ps : List Str} {sp : Sp} (F : Fun K x qual st f fd) (S : FnScope N ps (defScope st))
    (len : ∀ (vs : List V) (H : Hp) (Q : VK) (E : XK), sp vs H Q E → vs.length = ps.length)
    (hbody : ∀ (cdv : Value) (A : Around) (outer : List Env) (s : Shared) (H : Hp) (vs : List V) (Q : VK) (E : XK), A.guards = some [] → Room k (A.deeper (PyProof.Rows.envOfC qual (defScope st) s.heap.objs.size f cdv)) → sp vs H Q E →
      ∃ t, PSs (cxOf CX0 P w K mg base N qual (defScope st) f cdv A outer s H E).nox (defBody st) t ∧ t { nx := fun _ H' => Q V.non H', rt := Q } (L2.start N vs) H) :
    FnG P w K mg base CX0 (k + 1) f fd ps sp := by
  obtain ⟨oc, od, kV, doc, pm, an, cdv, ct, osl, rfl, lk, hcd⟩ := F.ex
  refine fn_ofG lk hcd S len fun A outer s H vs Q E hg hr hsp => ?_
  obtain ⟨t, h, q⟩ := hbody cdv A outer s H vs Q E hg hr hsp
  exact ⟨t, PSs.nox h, q⟩
end
theorem run_fnG {X : Cx} {CX : CXT} {k : Nat} {f : Addr} {fd : FuncData} {ps : List Str} {sp : Sp} {dvs : List V} {ds : List Value} {E : XK} {pins : List (Addr × Obj)} {σ : L2.St} {H : Hp} {s : Shared} {Q : VK} {us : List Value} {vs : List V}
    (F : FnG X.prog X.w X.K X.mg X.base CX k f fd ps sp) (hgd : X.A.guards = some []) (hr : Room k X.A) (hb : Binds X.K fd ps ds) (hd : Vals dvs ds) (hx : Passes CX X E) (I : L2.Inv X pins σ H s) (r : Vals vs us) (h : sp (vs ++ dvs) H Q E) :
    wpAny (model X.prog X.w) X.A (call (Value.ref f) us) (EP X pins σ Q) X.xe s := by
  have r2 := Vals.append r hd
  have hl : (us ++ ds).length = ps.length := by rw [← Vals.length r2]; exact F.len _ _ _ _ h
  refine wpAny_call (codeAny_mono (F.run X.A X.stack s H _ _ _ Q E hgd hr (Inv.env0 I) (hb s us (Inv.kIn I) hl) r2 h) fun r s' hq => ?_)
  cases r with
  | error e => exact hx pins σ H s e s' I hq
  | ok fl =>
    cases fl with
    | ret u => exact Inv.after I hq
    | _ => exact hq.elim
/-- a def of the text that keeps a promise where nothing is being shown, as its callers see it -/
def CalG (P : Program) (w : World) (K : PySem.W.Frag) (mg : Str → Option Value) (base : Heap) (k : Nat) (x : Str) (ps : List Str) (sp : Sp) : Prop :=
  ∃ f fd, FnG P w K mg base CX0 k f fd ps sp ∧ mg x = some (.ref f) ∧ PySem.W.keepIn K (.ref f) = true ∧ Binds K fd ps []
theorem pe_ownG {X : Cx} {k : Nat} {x : Str} {ps : List Str} {sp : Sp} {e : Expr} {es : List Expr} {t : TA} {p pos : Pos} (C : CalG X.prog X.w X.K X.mg X.base k x ps sp) (hgd : X.A.guards = some []) (hr : Room k X.A) (hg : Gl X x) (ha : PA X (e :: es) t)
    (dbg : (x == ("__debug__" : Str)) = false := by decide) (one : starEach (e :: es) X.env = (false, eval e X.env) :: starEach es X.env := by rfl) (star : (backTo pos (starEach es X.env)).any (·.1) = false := by rfl) :
    PE X (.Call (.Name x p) (e :: es) [] pos) (tCall sp [] E0 t) := by
  obtain ⟨f, fd, F, hm, hk, hb⟩ := C
  refine ⟨fun pins s σ H Q I h => wpAny_Call_Name_kw (ld_glob I hg hm (PySem.W.callWith_K I.ok.mod.kin hk (thn (ha.run pos pins s σ H _ I h) fun us s1 z => ?_) one star) dbg)⟩
  obtain ⟨vs, H1, I1, r, q⟩ := z
  exact ⟨Inv.kIn I1, run_fnG F hgd hr hb .nil pass0 I1 r q⟩
/-- str of data -/
def rStrD (K : PySem.W.Frag) : List V → Hp → VK → Prop := fun xs H Q => ∃ (a : Addr) (d : PyData), xs = [.ref a] ∧ Dp K H (.ref a) d ∧ d.showable = true ∧ d.hasDict = false ∧ d.depth ≤ 8 ∧ d.shown.length ≤ sizeLine ∧ Q (.str d.shown) H
theorem cr_strD {X : Cx} (hg : X.A.guards = some []) (hu : X.A.units + 11 < cLine) : CallR X (.type "str") (rStrD X.K) := fun pins s σ H xs us Q I hv h => by
  obtain ⟨a, d, rfl, hd, h1, h2, h3, h4, q⟩ := h
  cases hv with
  | cons ru hn =>
    cases hn
    cases ru
    obtain ⟨as, hR⟩ := Dp.reads I d (.ref a) (.ref a) hd rfl
    exact str_of_reads hR h1 (fun z => by rw [h2] at z; cases z) hg (by omega) (fun b o e => e) (fun h' u tk keep => ⟨.str d.shown, H, I.kept keep, ⟨u, rfl⟩, q⟩) h4
/-! ### the end -/
theorem law_callG {P : Program} {w : World} {K : PySem.W.Frag} {mg mb : Str → Option Value} {CX : CXT} {k : Nat} {fa a : Addr} {fd : FuncData} {x : Str} {sp : Sp} {s₁ : Shared} {vs : List Value} {ns : List Int}
    (KX : K.In s₁.heap) (hns : s₁.heap.Ns mainGlobals mg) (hb : s₁.heap.Ns builtinsNs mb) (hbb : ∀ (x : Str), x ≠ Str.ofString "__name__" → mb x = bootBuiltins x) (hlim : s₁.heap.NoLimit) (hg : s₁.gens = #[])
    (ha : s₁.heap.get? a = some { cls := Value.type "list", data := Data.seq vs.toArray }) (hi : PyProof.Rows.IntsAre vs ns) (hl : ns.length ≤ sizeLine) (hr : Room k callerA)
    (F : ∀ (base : Heap), K.In base → base.Ns mainGlobals mg → FnG P w K mg base CX k fa fd [x] sp) (hbind : ∀ (s : Shared) (u : Value), BindsTo s fd { pos := [u] } [(x, u)])
    (hsp : ∀ (H : Hp), Only H → SqL K H a (List.map V.int ns) → sp [V.ref a] H (fun v _ => v = V.bl true) fun _ _ _ => False) (hCX : ∀ (H : Hp) (e : Value) (s' : Shared), CX [] H s₁ (fun _ _ _ => False) e s' → False) :
    codeAny (model P w) callerA (Code.call (Value.ref fa) { pos := [Value.ref a] }) (fun r s' => r = Except.ok (Flow.ret (Value.bool true)) ∧ OldK s₁.heap s'.heap ∧ s'.os = s₁.os ∧ PyProof.Rows.AllBare s'.gens) s₁ := by
  have rv := vals_ints hi
  have lenV := PyProof.Rows.IntsAre.length hi
  have core : ∀ H : Hp, Only H → SqL K H a (List.map V.int ns) → HOk P w H s₁.heap → (∀ b, H b ≠ none → b = a) → (H a ≠ none → List.lookup a K = none) →
      codeAny (model P w) callerA (Code.call (Value.ref fa) { pos := [Value.ref a] }) (fun r s' => r = Except.ok (Flow.ret (Value.bool true)) ∧ OldK s₁.heap s'.heap ∧ s'.os = s₁.os ∧ PyProof.Rows.AllBare s'.gens) s₁ := by
    intro H hO hS hok hA hK
    have isA : ∀ {b : Addr} {u : HO}, H b = some u → b = a := fun {b u} hh => hA b (by rw [hh]; exact fun z => nomatch z)
    have noA : ∀ {b : Addr} {o : Obj} {es ep}, s₁.heap.get? b = some o → o.data = Data.dict es ep → H b = none := by
      intro b o es ep e d
      cases hh : H b with
      | none => rfl
      | some u =>
        rw [isA hh, ha] at e
        rw [← Option.some.inj e] at d
        cases d
    have nsK : ∀ {b : Addr} {m : Str → Option Value}, s₁.heap.Ns b m → (hidT s₁.heap H).Ns b m := fun {b m} z => by
      obtain ⟨o, es, ep, e, d, r⟩ := z
      exact ⟨o, es, ep, hidT_get e (noA e d), d, r⟩
    have hKb : K.In (hidT s₁.heap H) := fun b o e => hidT_get (KX b o e) (by
      cases hh : H b with
      | none => rfl
      | some u =>
        rw [isA hh, hK (by rw [isA hh] at hh; rw [hh]; exact fun z => nomatch z)] at e
        cases e)
    have hM : L2.Mod K mg (hidT s₁.heap H) := ⟨hKb, nsK hns, ⟨mb, nsK hb, hbb⟩, let ⟨mc, h1, h2⟩ := hlim; ⟨mc, nsK h1, h2⟩⟩
    have e0 : Env0 P w K mg (hidT s₁.heap H) callerA [] s₁ H := ⟨rfl, hM, fun b o e => of_hidT e, Nat.le_of_eq (hidT_size ..), trivial, fun b hb => (nomatch hb), hok, .of_eq hg⟩
    refine codeAny_mono ((F _ hKb (nsK hns)).run callerA [] s₁ H ⟨[.ref a], []⟩ [.ref a] [.ref a] (fun v _ => v = .bl true) (fun _ _ _ => False) rfl hr e0 (hbind s₁ (.ref a)) (.cons rfl .nil) (hsp H hO hS)) fun r s' h => ?_
    cases r with
    | error e => exact (hCX H e s' h).elim
    | ok fl =>
      cases fl with
      | ret u =>
        obtain ⟨v, H', os, bare, un, hok', r', q⟩ := h
        subst q
        cases r'
        refine ⟨rfl, OldK.of_keep fun b o e => ?_, os, bare⟩
        cases hh : H b with
        | none => exact un.keep b o e hh (fun z => nomatch z) (fun z => nomatch z)
        | some u =>
          rcases hO b with z | ⟨ob, xs, z⟩
          · rw [z] at hh; cases hh
          · have z2 := un.frzs b ob (HO.lst xs) z
            have e1 := (hok b _ z).1
            have e2 := (hok' b _ z2).1
            rw [e] at e1
            rw [Option.some.inj e1]
            exact e2
      | _ => exact h.elim
  cases hk : List.lookup a K with
  | none =>
    have at_a : (fun b => if b = a then some (HO.frz { cls := Value.type "list", data := Data.seq vs.toArray } (HO.lst (List.map V.int ns))) else none : Hp) a = some (HO.frz { cls := Value.type "list", data := Data.seq vs.toArray } (HO.lst (List.map V.int ns))) := if_pos rfl
    refine core (fun b => if b = a then some (HO.frz { cls := Value.type "list", data := Data.seq vs.toArray } (HO.lst (List.map V.int ns))) else none) (fun b => ?_) (.inl (.inr ⟨_, at_a⟩)) (fun b u z => ?_) (fun b z => ?_) (fun _ => hk)
    · by_cases hb : b = a
      · exact .inr ⟨_, _, if_pos hb⟩
      · exact .inl (if_neg hb)
    · by_cases hb : b = a
      · have z' := Eq.trans (Eq.symm (if_pos hb)) z
        cases z'
        subst hb
        exact ⟨ha, by rw [List.length_map]; exact hl, vs, 0, rv, ha⟩
      · have z' := Eq.trans (Eq.symm (if_neg hb)) z
        cases z'
    · by_cases hb : b = a
      · exact hb
      · exact absurd (if_neg hb) z
  | some o =>
    have e := KX a o hk
    rw [ha] at e
    cases e
    exact core (fun _ => none) (fun _ => .inl rfl) (.inr ⟨_, vs.toArray, 0, hk, rfl, rfl, rfl, by rw [List.size_toArray, lenV]; exact hl, rv⟩) (fun b u z => nomatch z) (fun b z => absurd rfl z) (fun z => absurd rfl z)
def LawAtG (l : PySem.W.OpenLaw) (w : World) (K : PySem.W.Frag) (k : Nat) (mg : Str → Option Value) (fa : Addr) : Prop :=
  ∃ (fd : FuncData) (sp : Sp), (∀ (s : Shared) (u : Value), BindsTo s fd { pos := [u] } [("_law_script", u)]) ∧ (∀ (H : Hp) (a : Addr) (ns : List Int), ns.length ≤ 63 → SqL K H a (List.map V.int ns) → sp [V.ref a] H (fun v _ => v = V.bl true) fun _ _ _ => False) ∧
    ∀ (base : Heap), K.In base → base.Ns mainGlobals mg → FnG l.prog w K mg base CX0 k fa fd ["_law_script"] sp
theorem law_endG {l : PySem.W.OpenLaw} {k : Nat} {q : Program} {loose : List Str} {XP : (Str → Option Value) → Heap → Prop} {YP : World → Heap → Prop} {d : DefRec} {K : Params → PySem.W.Frag} (most : l.most = some 63) (plain : d.params.defaults = []) (room : Room k callerA)
    (part : ∀ w h, YP w h → (K w.params).In h) (made : ∀ (w : World) (mg : Str → Option Value) (f : Addr) (h : Heap), (K w.params).In h → h.Ns mainGlobals mg → mg d.name = some (.ref f) → LawAtG l w (K w.params) k mg f) : PySem.W.WalkO q loose XP YP l.row.toRowW d [] (fun f vs => PySem.call f vs) := by
  refine Att.attach_callB most plain ?_
  intro w _ s₁ mg _ f _ _ _ _ a vs ns ground said _ _ _ name script nums len size still
  have X := part w _ said
  obtain ⟨fd, sp, e4, e5, e6⟩ := made w mg f _ X ground.T.g name
  exact law_callG X ground.T.g ground.T.b ground.T.builtins ground.T.nolimit still script nums (Nat.le_trans len (by decide)) room e6 e4 (fun H z1 z2 => e5 H a ns len z2) fun _ _ _ z => z

/-- an expression, then a word of what it gives: what follows is shown once -/
def tMid (te : TE) : TE := fun σ H Q => ∃ M : V → Hp → Prop, te σ H M ∧ ∀ v H', M v H' → Q v H'
theorem pe_mid {X : Cx} {e : Expr} {te : TE} (h : PE X e te) : PE X e (tMid te) := ⟨fun pins s σ H Q I ⟨M, h1, h2⟩ => thn (h.run pins s σ H M I h1) fun _ _ ⟨y, H1, I1, r, q⟩ => ⟨y, H1, I1, r, h2 _ _ q⟩⟩

/-! ### things as data; of the lists among them this holds -/
inductive DatN (N : Addr → Prop) (H : Hp) : V → PyData → Prop
  | non : DatN N H .non .none
  | bl (b : Bool) : DatN N H (.bl b) (.bool b)
  | int (i : Int) : DatN N H (.int i) (.int i)
  | str (x : Str) : DatN N H (.str x) (.str x)
  | lst {a : Addr} {xs : List V} {ds : List PyData} : N a → H a = some (.lst xs) → xs.length = ds.length → (∀ (i : Nat) x d, xs[i]? = some x → ds[i]? = some d → DatN N H x d) → DatN N H (.ref a) (.list ds)
  | tup {a : Addr} {xs : List V} {ds : List PyData} : H a = some (.tup xs) → xs.length = ds.length → (∀ (i : Nat) x d, xs[i]? = some x → ds[i]? = some d → DatN N H x d) → DatN N H (.ref a) (.tuple ds)
/-- tuples stay, and the lists of which this holds -/
structure Kps (N : Addr → Prop) (H H' : Hp) : Prop where
  tup : ∀ a xs, H a = some (.tup xs) → H' a = some (.tup xs)
  lst : ∀ a xs, N a → H a = some (.lst xs) → H' a = some (.lst xs)
theorem Kps.same {N : Addr → Prop} {H H' : Hp} (s : Same H H') : Kps N H H' := ⟨fun a xs e => s a _ e, fun a xs _ e => s a _ e⟩
theorem Kps.kp {N : Addr → Prop} {H H' : Hp} {d c : Addr} {t : Int} (k : Kp d c H H') (S : StAt H d c t) (hN : ∀ a, N a → a ≠ c) : Kps N H H' :=
  ⟨fun a xs e => k.tup S e, fun a xs n e => k a _ (fun z => by rw [z, S.dict] at e; cases e) (hN a n) e⟩
theorem Kps.upd {N : Addr → Prop} {H : Hp} {D : Addr} {ys : List V} {o : HO} (e : H D = some (.lst ys)) (hN : ∀ a, N a → a ≠ D) : Kps N H (upd H D o) :=
  ⟨fun a xs f => by rw [upd_ne (ne_of f e (fun z => nomatch z))]; exact f, fun a xs n f => by rw [upd_ne (hN a n)]; exact f⟩
theorem Kps.upd_dK {N : Addr → Prop} {H : Hp} {D : Addr} {ks : List (Key × V)} {o : HO} (e : H D = some (.dK ks)) : Kps N H (L2.upd H D o) :=
  ⟨fun a xs f => by rw [upd_ne (ne_of f e (fun z => nomatch z))]; exact f, fun a xs n f => by rw [upd_ne (ne_of f e (fun z => nomatch z))]; exact f⟩
theorem Kps.trans {N : Addr → Prop} {H H1 H2 : Hp} (a : Kps N H H1) (b : Kps N H1 H2) : Kps N H H2 := ⟨fun x xs e => b.tup x xs (a.tup x xs e), fun x xs n e => b.lst x xs n (a.lst x xs n e)⟩
theorem DatN.keep {N : Addr → Prop} {H H' : Hp} {v : V} {d : PyData} (h : DatN N H v d) (k : Kps N H H') : DatN N H' v d := by
  induction h with
  | non => exact .non
  | bl b => exact .bl b
  | int i => exact .int i
  | str x => exact .str x
  | lst n e l _ ih => exact .lst n (k.lst _ _ n e) l ih
  | tup e l _ ih => exact .tup (k.tup _ _ e) l ih
theorem DatN.same {N : Addr → Prop} {H H' : Hp} {v : V} {d : PyData} (h : DatN N H v d) (s : Same H H') : DatN N H' v d := h.keep (.same s)
theorem DatN.weak {N N' : Addr → Prop} {H : Hp} {v : V} {d : PyData} (h : DatN N H v d) (w : ∀ a xs, N a → H a = some (.lst xs) → N' a) : DatN N' H v d := by
  induction h with
  | non => exact .non
  | bl b => exact .bl b
  | int i => exact .int i
  | str x => exact .str x
  | lst n e l _ ih => exact .lst (w _ _ n e) e l ih
  | tup e l _ ih => exact .tup e l ih
theorem DatN.dat {N : Addr → Prop} {H : Hp} {v : V} {d : PyData} (h : DatN N H v d) : Dat H v d := by
  induction h with
  | non => exact .non
  | bl b => exact .bl b
  | int i => exact .int i
  | str x => exact .str x
  | lst n e l _ ih => exact .lst e l ih
  | tup e l _ ih => exact .tup e l ih
theorem dpAll_of {K : PySem.W.Frag} {H : Hp} : ∀ {xs : List V} {ds : List PyData}, xs.length = ds.length → (∀ (i : Nat) x d, xs[i]? = some x → ds[i]? = some d → Dp K H x d) → DpAll K H xs ds
  | [], [], _, _ => .nil
  | [], _ :: _, e, _ => nomatch e
  | _ :: _, [], e, _ => nomatch e
  | x :: xs, d :: ds, e, h => .cons (h 0 x d rfl rfl) (dpAll_of (Nat.succ.inj e) fun i y c e1 e2 => h (i + 1) y c e1 e2)
theorem DatN.dp {K : PySem.W.Frag} {N : Addr → Prop} {H : Hp} {v : V} {d : PyData} (h : DatN N H v d) : Dp K H v d := by
  induction h with
  | non => exact .non
  | bl b => exact .bl b
  | int i => exact .int i
  | str x => exact .str x
  | lst n e l _ ih => exact .lst (SqL.of e) (dpAll_of l ih)
  | tup e l _ ih => exact .tup (.inl (.inl e)) (dpAll_of l ih)
/-- things one by one as data -/
def EchN (N : Addr → Prop) (H : Hp) (xs : List V) (ds : List PyData) : Prop := xs.length = ds.length ∧ ∀ (i : Nat) x d, xs[i]? = some x → ds[i]? = some d → DatN N H x d
theorem EchN.keep {N : Addr → Prop} {H H' : Hp} {xs : List V} {ds : List PyData} (h : EchN N H xs ds) (k : Kps N H H') : EchN N H' xs ds := ⟨h.1, fun i x d e1 e2 => (h.2 i x d e1 e2).keep k⟩
theorem EchN.same {N : Addr → Prop} {H H' : Hp} {xs : List V} {ds : List PyData} (h : EchN N H xs ds) (s : Same H H') : EchN N H' xs ds := h.keep (.same s)
theorem EchN.weak {N N' : Addr → Prop} {H : Hp} {xs : List V} {ds : List PyData} (h : EchN N H xs ds) (w : ∀ a xs, N a → H a = some (.lst xs) → N' a) : EchN N' H xs ds := ⟨h.1, fun i x d e1 e2 => (h.2 i x d e1 e2).weak w⟩
theorem EchN.nil {N : Addr → Prop} {H : Hp} : EchN N H [] [] := ⟨rfl, fun _ _ _ e => nomatch e⟩
theorem EchN.cons {N : Addr → Prop} {H : Hp} {x : V} {d : PyData} {xs : List V} {ds : List PyData} (h : DatN N H x d) (hr : EchN N H xs ds) : EchN N H (x :: xs) (d :: ds) :=
  ⟨congrArg (· + 1) hr.1, fun i y e e1 e2 => by
    cases i with
    | zero => cases e1; cases e2; exact h
    | succ i => exact hr.2 i y e e1 e2⟩
theorem EchN.one {N : Addr → Prop} {H : Hp} {x : V} {d : PyData} (h : DatN N H x d) : EchN N H [x] [d] := .cons h .nil
theorem getElem?_two {α β : Type} {xs ys : List α} {us ws : List β} (l : xs.length = us.length) {i : Nat} {x : α} {u : β} (e1 : (xs ++ ys)[i]? = some x) (e2 : (us ++ ws)[i]? = some u) : (xs[i]? = some x ∧ us[i]? = some u) ∨ (ys[i - xs.length]? = some x ∧ ws[i - xs.length]? = some u) := by
  by_cases hi : i < xs.length
  · rw [List.getElem?_append_left hi] at e1
    rw [List.getElem?_append_left (by omega)] at e2
    exact .inl ⟨e1, e2⟩
  · rw [List.getElem?_append_right (by omega)] at e1 e2
    rw [← l] at e2
    exact .inr ⟨e1, e2⟩
theorem EchN.app {N : Addr → Prop} {H : Hp} {xs ys : List V} {ds es : List PyData} (h : EchN N H xs ds) (h' : EchN N H ys es) : EchN N H (xs ++ ys) (ds ++ es) :=
  ⟨by rw [List.length_append, List.length_append, h.1, h'.1], fun i v p e1 e2 => (getElem?_two h.1 e1 e2).elim (fun z => h.2 i v p z.1 z.2) (fun z => h'.2 _ v p z.1 z.2)⟩
theorem EchN.snoc {N : Addr → Prop} {H : Hp} {xs : List V} {ds : List PyData} {x : V} {d : PyData} (h : EchN N H xs ds) (h' : DatN N H x d) : EchN N H (xs ++ [x]) (ds ++ [d]) := h.app (.one h')
theorem EchN.at {N : Addr → Prop} {H : Hp} {xs : List V} {ds : List PyData} {i : Nat} {x : V} (h : EchN N H xs ds) (e : xs[i]? = some x) : ∃ d, ds[i]? = some d ∧ DatN N H x d := by
  have hi : i < ds.length := by rw [← h.1]; exact (List.getElem?_eq_some_iff.mp e).1
  exact ⟨_, List.getElem?_eq_getElem hi, h.2 i x _ e (List.getElem?_eq_getElem hi)⟩
theorem EchN.atM {α : Type} {N : Addr → Prop} {H : Hp} {xs : List V} {f : α → PyData} {ys : List α} {i : Nat} {x : V} (h : EchN N H xs (ys.map f)) (e : xs[i]? = some x) : ∃ y, ys[i]? = some y ∧ DatN N H x (f y) := by
  obtain ⟨d, e1, e2⟩ := h.at e
  rw [List.getElem?_map] at e1
  cases h : ys[i]? with
  | none => rw [h] at e1; cases e1
  | some y => rw [h] at e1; cases e1; exact ⟨y, rfl, e2⟩
theorem DatN.list {N : Addr → Prop} {H : Hp} {v : V} {ds : List PyData} (h : DatN N H v (.list ds)) : ∃ a xs, v = .ref a ∧ N a ∧ H a = some (.lst xs) ∧ EchN N H xs ds := by
  cases h with
  | lst n e l r => exact ⟨_, _, rfl, n, e, l, r⟩
theorem DatN.tuple {N : Addr → Prop} {H : Hp} {v : V} {ds : List PyData} (h : DatN N H v (.tuple ds)) : ∃ a xs, v = .ref a ∧ H a = some (.tup xs) ∧ EchN N H xs ds := by
  cases h with
  | tup e l r => exact ⟨_, _, rfl, e, l, r⟩
theorem EchN.lst {N : Addr → Prop} {H : Hp} {a : Addr} {xs : List V} {ds : List PyData} (h : EchN N H xs ds) (n : N a) (e : H a = some (.lst xs)) : DatN N H (.ref a) (.list ds) := .lst n e h.1 h.2
theorem EchN.tup {N : Addr → Prop} {H : Hp} {a : Addr} {xs : List V} {ds : List PyData} (h : EchN N H xs ds) (e : H a = some (.tup xs)) : DatN N H (.ref a) (.tuple ds) := .tup e h.1 h.2
theorem EchN.inv {N : Addr → Prop} {H : Hp} {xs : List V} {d : PyData} {ds : List PyData} (h : EchN N H xs (d :: ds)) : ∃ x xs', xs = x :: xs' ∧ DatN N H x d ∧ EchN N H xs' ds := by
  cases xs with
  | nil => exact nomatch h.1
  | cons x xs => exact ⟨x, xs, rfl, h.2 0 x d rfl rfl, Nat.succ.inj h.1, fun i y e e1 e2 => h.2 (i + 1) y e e1 e2⟩
theorem EchN.inv0 {N : Addr → Prop} {H : Hp} {xs : List V} (h : EchN N H xs []) : xs = [] := List.eq_nil_of_length_eq_zero h.1
theorem DatN.inv_int {N : Addr → Prop} {H : Hp} {v : V} {i : Int} (h : DatN N H v (.int i)) : v = .int i := by cases h; rfl
theorem DatN.inv_str {N : Addr → Prop} {H : Hp} {v : V} {x : Str} (h : DatN N H v (.str x)) : v = .str x := by cases h; rfl
theorem DatN.inv_non {N : Addr → Prop} {H : Hp} {v : V} (h : DatN N H v .none) : v = .non := by cases h; rfl
theorem DatN.inv_bl {N : Addr → Prop} {H : Hp} {v : V} {b : Bool} (h : DatN N H v (.bool b)) : v = .bl b := by cases h; rfl
theorem echN_ints {N : Addr → Prop} {H : Hp} (ns : List Int) : EchN N H (ns.map V.int) (ns.map PyData.int) := ⟨by rw [List.length_map, List.length_map], fun i x d e1 e2 => by
  rw [List.getElem?_map] at e1 e2
  cases h : ns[i]? with
  | none => rw [h] at e1; cases e1
  | some n =>
    rw [h] at e1 e2
    cases e1
    cases e2
    exact .int n⟩
theorem echN_strs {N : Addr → Prop} {H : Hp} (ns : List Str) : EchN N H (ns.map V.str) (ns.map PyData.str) := ⟨by rw [List.length_map, List.length_map], fun i x d e1 e2 => by
  rw [List.getElem?_map] at e1 e2
  cases h : ns[i]? with
  | none => rw [h] at e1; cases e1
  | some n =>
    rw [h] at e1 e2
    cases e1
    cases e2
    exact .str n⟩
theorem EchN.ints {N : Addr → Prop} {H : Hp} : ∀ {xs : List V} {ns : List Int}, EchN N H xs (ns.map PyData.int) → xs = ns.map V.int
  | _, [], h => h.inv0
  | _, n :: r, h => by
    obtain ⟨x, xs', rfl, h1, h2⟩ := EchN.inv h
    rw [h1.inv_int, EchN.ints h2]
    rfl
theorem EchN.strs {N : Addr → Prop} {H : Hp} : ∀ {xs : List V} {ns : List Str}, EchN N H xs (ns.map PyData.str) → xs = ns.map V.str
  | _, [], h => h.inv0
  | _, n :: r, h => by
    obtain ⟨x, xs', rfl, h1, h2⟩ := EchN.inv h
    rw [h1.inv_str, EchN.strs h2]
    rfl
/-- pairs of whole numbers -/
theorem _root_.GP.Prs.ech {N : Addr → Prop} {H : Hp} {us : List V} {ps : List (Int × Int)} (h : Prs H us ps) : EchN N H us (ps.map pairD) := ⟨by rw [List.length_map]; exact h.1, fun i x d e1 e2 => by
  obtain ⟨p, a, ep, rfl, ea⟩ := prs_at h e1
  rw [List.getElem?_map, ep] at e2
  cases e2
  exact EchN.tup (.cons (.int _) (.one (.int _))) ea⟩
theorem EchN.prs {N : Addr → Prop} {H : Hp} {us : List V} {ps : List (Int × Int)} (h : EchN N H us (ps.map pairD)) : Prs H us ps := ⟨by have := h.1; rwa [List.length_map] at this, fun i p ep => by
  have hi : i < us.length := by
    rw [h.1, List.length_map]
    exact (List.getElem?_eq_some_iff.mp ep).1
  obtain ⟨y, e1, e2⟩ := h.atM (List.getElem?_eq_getElem hi)
  rw [ep] at e1
  cases e1
  obtain ⟨a, xs, ev, ea, r⟩ := e2.tuple
  obtain ⟨x1, r1, rfl, d1, r2⟩ := r.inv
  obtain ⟨x2, r3, rfl, d2, r4⟩ := r2.inv
  rw [r4.inv0, d1.inv_int, d2.inv_int] at ea
  exact ⟨a, by rw [List.getElem?_eq_getElem hi, ev], ea⟩⟩
/-- new since then -/
abbrev NewIn (H : Hp) : Addr → Prop := fun a => H a = none
def setD (ps : List (Int × Int)) : PyData := .list (ps.map pairD)
/-! ### what can be shown -/
structure Shw (n w : Nat) (d : PyData) : Prop where
  sh : d.showable = true
  nd : d.hasDict = false
  dp : d.depth ≤ n
  ls : d.leavesShort 40 = true
  wt : d.weight ≤ w
theorem Shw.mono {n w n' w' : Nat} {d : PyData} (h : Shw n w d) (h1 : n ≤ n') (h2 : w ≤ w') : Shw n' w' d := ⟨h.sh, h.nd, Nat.le_trans h.dp h1, h.ls, Nat.le_trans h.wt h2⟩
theorem Shw.int {n : Nat} {i : Int} (h : i.natAbs < 10 ^ 39) : Shw n 131 (.int i) := by
  refine ⟨?_, by rw [PyData.hasDict], by rw [PyData.depth]; omega, ?_, ?_⟩
  · rw [PyData.showable]
    by_cases z : i.natAbs = 0
    · rw [z]; decide
    · exact decide_eq_true (Nat.lt_trans ((Nat.log2_lt (k := 130) z).mpr (Nat.lt_trans h (by decide))) (by decide))
  · rw [PyData.leavesShort]
    have e := int_text_length_le10 (k := 39) (by decide) h
    refine decide_eq_true ?_
    show (Str.ofString (toString i)).length ≤ 40
    rw [PySem.ofString_length]
    exact e
  · rw [PyData.weight]
    split
    · omega
    · by_cases z : i.natAbs = 0
      · rw [z]; decide
      · have : i.natAbs.log2 < 130 := (Nat.log2_lt z).mpr (Nat.lt_trans h (by decide))
        omega
theorem Shw.str {n w : Nat} {x : Str} (h : PyData.strOk x = true) (hl : x.length ≤ w) : Shw n w (.str x) := by
  refine ⟨by rw [PyData.showable], by rw [PyData.hasDict], by rw [PyData.depth]; omega, ?_, by rw [PyData.weight]; exact hl⟩
  rw [PyData.leavesShort, List.all_eq_true]
  intro c hc
  have h' : x.cps.all (· < 0x110000) = true := h
  rw [Array.all_eq_true'] at h'
  have := of_decide_eq_true (h' c (by simpa using hc))
  exact decide_eq_true (Nat.lt_trans this (by decide))
theorem Shw.none {n w : Nat} : Shw n w .none := ⟨by rw [PyData.showable], by rw [PyData.hasDict], by rw [PyData.depth]; omega, by rw [PyData.leavesShort], by rw [PyData.weight]; omega⟩
theorem Shw.bool {n w : Nat} {b : Bool} : Shw n w (.bool b) := ⟨by rw [PyData.showable], by rw [PyData.hasDict], by rw [PyData.depth]; omega, by rw [PyData.leavesShort], by rw [PyData.weight]; omega⟩
theorem shwAll : ∀ {n w : Nat} {ds : List PyData}, (∀ d ∈ ds, Shw n w d) → PyData.showableAll ds = true ∧ PyData.hasDictAll ds = false ∧ PyData.depthAll ds ≤ n ∧ PyData.leavesShortAll 40 ds = true ∧ PyData.weightAll ds ≤ ds.length * (w + 1)
  | n, w, [], _ => by simp [PyData.leavesShortAll, PyData.weightAll, PyData.showableAll, PyData.hasDictAll, PyData.depthAll]
  | n, w, d :: r, h => by
    obtain ⟨g1, g2, g3, g4, g5⟩ := shwAll (ds := r) fun q hq => h q (List.mem_cons_of_mem _ hq)
    obtain ⟨h1, h2, h3, h4, h5⟩ := h d (List.mem_cons_self ..)
    refine ⟨by rw [PyData.showableAll, h1, g1]; rfl, by rw [PyData.hasDictAll, h2, g2]; rfl, by rw [PyData.depthAll]; omega, by rw [PyData.leavesShortAll, h4, g4]; rfl, ?_⟩
    rw [PyData.weightAll, List.length_cons, Nat.succ_mul]
    omega
theorem Shw.list {n w m W : Nat} {ds : List PyData} (h : ∀ d ∈ ds, Shw n w d) (hl : ds.length ≤ m) (hW : m * (w + 1) ≤ W) : Shw (n + 1) W (.list ds) := by
  obtain ⟨g1, g2, g3, g4, g5⟩ := shwAll h
  have := Nat.mul_le_mul_right (w + 1) hl
  exact ⟨by rw [PyData.showable]; exact g1, by rw [PyData.hasDict]; exact g2, by rw [PyData.depth]; omega, by rw [PyData.leavesShort]; exact g4, by rw [PyData.weight]; omega⟩
theorem Shw.tuple {n w m W : Nat} {ds : List PyData} (h : ∀ d ∈ ds, Shw n w d) (hl : ds.length ≤ m) (hW : m * (w + 1) ≤ W) : Shw (n + 1) W (.tuple ds) := by
  obtain ⟨g1, g2, g3, g4, g5⟩ := shwAll h
  have := Nat.mul_le_mul_right (w + 1) hl
  exact ⟨by rw [PyData.showable]; exact g1, by rw [PyData.hasDict]; exact g2, by rw [PyData.depth]; omega, by rw [PyData.leavesShort]; exact g4, by rw [PyData.weight]; omega⟩
theorem Shw.listM {α : Type} {n w m W : Nat} {f : α → PyData} {ys : List α} (h : ∀ y ∈ ys, Shw n w (f y)) (hl : ys.length ≤ m) (hW : m * (w + 1) ≤ W) : Shw (n + 1) W (.list (ys.map f)) :=
  .list (fun d hd => by obtain ⟨y, hy, rfl⟩ := List.mem_map.mp hd; exact h y hy) (by rw [List.length_map]; exact hl) hW
theorem all2 {α : Type} {P : α → Prop} {x y : α} (h1 : P x) (h2 : P y) : ∀ z ∈ [x, y], P z := fun z hz => by
  rcases List.mem_cons.mp hz with e | e
  · rw [e]; exact h1
  · rw [List.mem_singleton.mp e]; exact h2
theorem all3 {α : Type} {P : α → Prop} {x y u : α} (h1 : P x) (h2 : P y) (h3 : P u) : ∀ z ∈ [x, y, u], P z := fun z hz => by
  rcases List.mem_cons.mp hz with e | e
  · rw [e]; exact h1
  · exact all2 h2 h3 z e
theorem Shw.shown {w : Nat} {d : PyData} (h : Shw 8 w d) (hw : w ≤ 390000) : d.showable = true ∧ d.hasDict = false ∧ d.depth ≤ 8 ∧ d.shown.length ≤ sizeLine :=
  ⟨h.sh, h.nd, h.dp, by
    have z := PyData.shown_le 40 (by decide) d h.ls
    have := h.wt
    exact Nat.le_trans z (Nat.le_trans (show (40 + 2) * d.weight + 40 ≤ 16380040 by omega) (by decide))⟩

/-! ### comprehensions, by what they make -/
/-- a thing's truth, as a test -/
def tTru (K : PySem.W.Frag) (te : TE) : TT := fun σ H Q => te σ H fun x H' => ∃ k, TruV K x H' k ∧ Q k H'
abbrev LcW (J : It) (g : TG) (tt : TT) (te : TE) (vs : List Nat) (σ : L2.St) (D : Addr) (Qd : Hp → Prop) (H1 : Hp) : Prop := ∃ W : Nat → Nat → Hp → Prop, (∃ m, W 0 m (upd H1 D (.lst []))) ∧ ∀ i m H, W i m H →
  (J.stop i H ∧ Qd H) ∨ (J.go i H ∧ ∃ Nx : Hp → Prop, (∀ H', Nx H' → ∃ m', m' < m ∧ W (i + 1) m' H') ∧ ∀ x H', J.yld i H x H' → g x (wipe σ vs) H' fun σ2 H2 => wipe σ2 vs = wipe σ vs ∧ tt σ2 H2 fun b H3 => if b = true then
    te σ2 H3 fun y H4 => ∃ acc, H4 D = some (.lst acc) ∧ acc.length < sizeLine ∧ Nx (upd H4 D (.lst (acc ++ [y]))) else Nx H3)
/-- each item makes something new, all else stays -/
theorem lc_new {J : It} {n : Nat} {G : Hp → Prop} {Y : Nat → Hp → V → Hp → Prop} (w : Walk J n G Y) {g : TG} {tt : TT} {te : TE} {vs : List Nat} {σ : L2.St} {H1 : Hp} {D : Addr} {Qd : Hp → Prop} (ds : List PyData) (nD : H1 D = none) (hn : ds.length = n) (hz : n ≤ 1000) (hG : ∀ H, Same H1 H → G H)
    (turn : ∀ i x d H H' (Kt : V → Hp → Prop) (Kn : Hp → Prop), ds[i]? = some d → Same H1 H → Y i H x H' → (∀ y H4, Same H H4 → DatN (NewIn H) H4 y d → Kt y H4) → g x (wipe σ vs) H' fun σ2 H2 => wipe σ2 vs = wipe σ vs ∧ tt σ2 H2 fun b H3 => if b = true then te σ2 H3 Kt else Kn H3)
    (fin : ∀ H, Same H1 H → DatN (NewIn H1) H (.ref D) (.list ds) → Qd H) : LcW J g tt te vs σ D Qd H1 := by
  refine lc_it w (fun j H => Same H1 H ∧ ∃ ws, H D = some (.lst ws) ∧ EchN (fun a => H1 a = none ∧ a ≠ D) H ws (ds.take j)) ⟨same_upd nD, [], upd_same, .nil⟩ (fun i H _ p => hG H p.1) (fun i x H H' hi hP hy => ?_) (fun H hP => ?_)
  · obtain ⟨sm, ws, eD, hws⟩ := hP
    have hd : ds[i]? = some ds[i] := List.getElem?_eq_getElem (by omega)
    refine turn i x _ H H' _ _ hd sm hy fun y H4 s4 hd4 => ?_
    have eD4 := s4 _ _ eD
    have hl : ws.length ≤ 1000 := by
      rw [hws.1, List.length_take]
      omega
    have hl' : ws.length < 1000 := by
      rw [hws.1, List.length_take]
      omega
    refine ⟨ws, eD4, Nat.lt_of_lt_of_le hl' (by decide), fun b o e => ?_, ws ++ [y], upd_same, ?_⟩
    · rw [upd_ne (ne_of_none e nD)]
      exact s4 _ _ (sm b o e)
    · rw [List.take_add_one, hd]
      have k : Kps (fun a => H1 a = none ∧ a ≠ D) H4 (upd H4 D (.lst (ws ++ [y]))) := .upd eD4 fun a z => z.2
      refine ((hws.same s4).keep k).snoc (DatN.keep (hd4.weak fun a xs (z : H a = none) e => ⟨sm.free z, fun q => ?_⟩) k)
      rw [q, eD] at z
      cases z
  · obtain ⟨sm, ws, eD, hws⟩ := hP
    rw [List.take_of_length_le (by omega)] at hws
    exact fin H sm ((hws.weak fun a _ z _ => z.1).lst nD eD)
/-- each item makes something new by draws -/
theorem lc_draw {α : Type} (f : α → PyData) (R : Nat → α → Prop) (T : Int) {J : It} {n : Nat} {G : Hp → Prop} {Y : Nat → Hp → V → Hp → Prop} (w : Walk J n G Y) {g : TG} {tt : TT} {te : TE} {vs : List Nat} {σ : L2.St} {H1 : Hp} {D d c : Addr} {t1 : Int} {Qd : Hp → Prop} (S1 : StAt H1 d c t1) (nD : H1 D = none) (hz : n ≤ 1000) (hG : ∀ H, Kp d c H1 H → G H)
    (turn : ∀ i x H H' t (Kt : V → Hp → Prop) (Kn : Hp → Prop), i < n → t1 ≤ t → t ≤ t1 + T * (i : Int) → StAt H d c t → Kp d c H1 H → Y i H x H' → (∀ z y t' H4, R i z → DatN (NewIn H) H4 y (f z) → t ≤ t' → t' ≤ t + T → StAt H4 d c t' → Kp d c H H4 → Kt y H4) →
      g x (wipe σ vs) H' fun σ2 H2 => wipe σ2 vs = wipe σ vs ∧ tt σ2 H2 fun b H3 => if b = true then te σ2 H3 Kt else Kn H3)
    (fin : ∀ (H : Hp) (t : Int) (zs : List α), zs.length = n → (∀ (i : Nat) z, zs[i]? = some z → R i z) → t1 ≤ t → t ≤ t1 + T * (n : Int) → StAt H d c t → Kp d c H1 H → DatN (NewIn H1) H (.ref D) (.list (zs.map f)) → Qd H) : LcW J g tt te vs σ D Qd H1 := by
  have off := S1.off nD
  refine lc_it w (fun j H => ∃ (t : Int) (ws : List V) (zs : List α), H D = some (.lst ws) ∧ EchN (fun a => H1 a = none ∧ a ≠ D) H ws (zs.map f) ∧ zs.length = j ∧ (∀ (i : Nat) z, zs[i]? = some z → R i z) ∧ t1 ≤ t ∧ t ≤ t1 + T * (j : Int) ∧ StAt H d c t ∧ Kp d c H1 H)
    ⟨t1, [], [], upd_same, .nil, rfl, (fun _ _ e => nomatch e), Int.le_refl _, by omega, S1.same (same_upd nD), Kp.same d c (same_upd nD)⟩ (fun i H _ hP => ?_) (fun i x H H' hi hP hy => ?_) (fun H hP => ?_)
  · obtain ⟨_, _, _, _, _, _, _, _, _, _, k⟩ := hP
    exact hG H k
  · obtain ⟨t, ws, zs, eD, hws, hzl, hR, t0, t2, hS, k⟩ := hP
    refine turn i x H H' t _ _ hi t0 t2 hS k hy fun z y t' H4 hz' hd4 u0 u1 hS4 k4 => ?_
    have eD4 := k4 _ _ off.1 off.2 eD
    have hwl : ws.length = i := by rw [hws.1, List.length_map, hzl]
    have kk : Kps (fun a => H1 a = none ∧ a ≠ D) H4 (upd H4 D (.lst (ws ++ [y]))) := .upd eD4 fun a z => z.2
    have k1 : Kps (fun a => H1 a = none ∧ a ≠ D) H H4 := .kp k4 hS fun a z q => by
      obtain ⟨cs, ec, _⟩ := S1.cells
      rw [q, ec] at z
      exact nomatch z.1
    refine ⟨ws, eD4, Nat.lt_of_lt_of_le (show ws.length < 1000 by omega) (by decide), t', ws ++ [y], zs ++ [z], upd_same, ?_, by rw [List.length_append, hzl]; rfl, fun j q e => ?_, by omega, ?_, hS4.upd off.1 off.2, fun b o b1 b2 e => ?_⟩
    · rw [List.map_append]
      refine ((hws.keep k1).keep kk).snoc (DatN.keep (hd4.weak fun a xs (z : H a = none) e => ⟨?_, fun q => ?_⟩) kk)
      · cases e1 : H1 a with
        | none => rfl
        | some o =>
          by_cases z1 : a = d
          · rw [z1, hS.dict] at z; cases z
          · by_cases z2 : a = c
            · obtain ⟨cs, ec, _⟩ := hS.cells
              rw [z2, ec] at z; cases z
            · have := k a o z1 z2 e1
              rw [this] at z
              cases z
      · rw [q, eD] at z
        cases z
    · by_cases hj : j < zs.length
      · rw [List.getElem?_append_left hj] at e
        exact hR j q e
      · rw [List.getElem?_append_right (by omega)] at e
        have hj0 : j - zs.length < 1 := (List.getElem?_eq_some_iff.mp e).1
        have ej : j = i := by omega
        subst ej
        rw [hzl, Nat.sub_self] at e
        cases e
        exact hz'
    · have : T * ((i + 1 : Nat) : Int) = T * (i : Int) + T := by
        rw [Int.natCast_add, Int.mul_add]
        omega
      omega
    · rw [upd_ne (ne_of_none e nD)]
      exact k4 b o b1 b2 (k b o b1 b2 e)
  · obtain ⟨t, ws, zs, eD, hws, hzl, hR, t0, t2, hS, k⟩ := hP
    exact fin H t zs hzl hR t0 t2 hS k ((hws.weak fun a _ z _ => z.1).lst nD eD)
/-- those items of which this holds -/
theorem lc_keep {K : PySem.W.Frag} {a : Addr} {xs : List V} (pb : V → Bool) {g : TG} {tt : TT} {te : TE} {vs : List Nat} {σ : L2.St} {H1 : Hp} {D : Addr} {Qd : Hp → Prop} (nD : H1 D = none) (ea : H1 a = some (.lst xs)) (hz : xs.length ≤ 1000)
    (turn : ∀ (i : Nat) (x : V) (H : Hp) (Kt : V → Hp → Prop) (Kn : Hp → Prop), xs[i]? = some x → Same H1 H → (∀ H4, Same H H4 → pb x = true → Kt x H4) → (∀ H4, Same H H4 → pb x = false → Kn H4) → g x (wipe σ vs) H fun σ2 H2 => wipe σ2 vs = wipe σ vs ∧ tt σ2 H2 fun b H3 => if b = true then te σ2 H3 Kt else Kn H3)
    (fin : ∀ H, Same H1 H → H D = some (.lst (xs.filter pb)) → Qd H) : LcW (Itl K a) g tt te vs σ D Qd H1 := by
  refine lc_it walk_list (fun j H => Same H1 H ∧ H D = some (.lst ((xs.take j).filter pb))) ⟨same_upd nD, upd_same⟩ (fun i H _ p => SqL.of (p.1 _ _ ea)) (fun i x H H' hi hP hy => ?_) (fun H hP => ?_)
  · obtain ⟨sm, eD⟩ := hP
    obtain ⟨rfl, hx⟩ := hy
    have et : (xs.take (i + 1)).filter pb = (xs.take i).filter pb ++ (if pb x = true then [x] else []) := by
      rw [List.take_add_one, hx, List.filter_append]
      by_cases c : pb x = true
      · rw [if_pos c]
        show _ ++ List.filter pb [x] = _
        rw [List.filter_cons_of_pos c]
        rfl
      · rw [if_neg c]
        show _ ++ List.filter pb [x] = _
        rw [List.filter_cons_of_neg c]
        rfl
    have hl : ((xs.take i).filter pb).length ≤ i := Nat.le_trans (List.length_filter_le ..) (by rw [List.length_take]; omega)
    refine turn i x H' _ _ hx sm (fun H4 s4 c => ?_) (fun H4 s4 c => ?_)
    · refine ⟨_, s4 _ _ eD, Nat.lt_of_lt_of_le (show _ < 1000 by omega) (by decide), fun b o e => ?_, ?_⟩
      · rw [upd_ne (ne_of_none e nD)]
        exact s4 _ _ (sm b o e)
      · rw [upd_same, et, if_pos c]
    · refine ⟨sm.trans s4, ?_⟩
      rw [et, if_neg (by rw [c]; decide), List.append_nil]
      exact s4 _ _ eD
  · obtain ⟨sm, eD⟩ := hP
    rw [List.take_length] at eD
    exact fin H sm eD
theorem lc_new_seq {K : PySem.W.Frag} {a : Addr} {xs : List V} {g : TG} {tt : TT} {te : TE} {vs : List Nat} {σ : L2.St} {H1 : Hp} {Qd : Addr → Hp → Prop} (hq : SqH H1 a xs) (ds : List PyData) (hn : ds.length = xs.length) (hz : xs.length ≤ 1000)
    (turn : ∀ (i : Nat) (x : V) (d : PyData) (H : Hp) (Kt : V → Hp → Prop) (Kn : Hp → Prop), xs[i]? = some x → ds[i]? = some d → Same H1 H → (∀ y H4, Same H H4 → DatN (NewIn H) H4 y d → Kt y H4) → g x (wipe σ vs) H fun σ2 H2 => wipe σ2 vs = wipe σ vs ∧ tt σ2 H2 fun b H3 => if b = true then te σ2 H3 Kt else Kn H3)
    (fin : ∀ D H, H1 D = none → Same H1 H → DatN (NewIn H1) H (.ref D) (.list ds) → Qd D H) :
    ((∃ xs, SqL K H1 a xs) ∧ ∀ D, H1 D = none → LcR (Itl K a) g tt te vs σ D Qd H1) ∨ ((∃ xs, SqT K H1 a xs) ∧ ∀ D, H1 D = none → LcR (Itt K a) g tt te vs σ D Qd H1) := by
  rcases hq with h | h
  · exact .inl ⟨⟨xs, SqL.of h⟩, fun D nD => lc_new (walk_list (xs := xs)) ds nD hn hz (fun H s => SqL.of (s _ _ h)) (fun i x d H H' Kt Kn hd sm hy k => by obtain ⟨rfl, hx⟩ := hy; exact turn i x d H' Kt Kn hx hd sm k) (fun H s d => fin D H nD s d)⟩
  · exact .inr ⟨⟨xs, .inl (.inl h)⟩, fun D nD => lc_new (walk_tup (xs := xs)) ds nD hn hz (fun H s => .inl (.inl (s _ _ h))) (fun i x d H H' Kt Kn hd sm hy k => by obtain ⟨rfl, hx⟩ := hy; exact turn i x d H' Kt Kn hx hd sm k) (fun H s d => fin D H nD s d)⟩
theorem lc_new_list {K : PySem.W.Frag} {a : Addr} {xs : List V} {g : TG} {tt : TT} {te : TE} {vs : List Nat} {σ : L2.St} {H1 : Hp} {D : Addr} {Qd : Hp → Prop} (nD : H1 D = none) (hq : H1 a = some (.lst xs)) (ds : List PyData) (hn : ds.length = xs.length) (hz : xs.length ≤ 1000)
    (turn : ∀ (i : Nat) (x : V) (d : PyData) (H : Hp) (Kt : V → Hp → Prop) (Kn : Hp → Prop), xs[i]? = some x → ds[i]? = some d → Same H1 H → (∀ y H4, Same H H4 → DatN (NewIn H) H4 y d → Kt y H4) → g x (wipe σ vs) H fun σ2 H2 => wipe σ2 vs = wipe σ vs ∧ tt σ2 H2 fun b H3 => if b = true then te σ2 H3 Kt else Kn H3)
    (fin : ∀ H, Same H1 H → DatN (NewIn H1) H (.ref D) (.list ds) → Qd H) : LcW (Itl K a) g tt te vs σ D Qd H1 :=
  lc_new (walk_list (xs := xs)) ds nD hn hz (fun H s => SqL.of (s _ _ hq)) (fun i x d H H' Kt Kn hd sm hy k => by obtain ⟨rfl, hx⟩ := hy; exact turn i x d H' Kt Kn hx hd sm k) fin

open LamX
/-! ### sorted(xs, key=lambda a: ..) -/
/-- the names of such a lambda: its parameter, captured ones, the module's -/
structure LamP (sc scope : Scope) (a : Str) : Prop where
  kind : scope.kind = .function
  co : scope.isCoroutine = false
  gen : scope.isGenerator = false
  par : scope.names.lookup a = some .local
  own : ∀ y ∈ scope.names, y.2 ≠ .cell
  free : ∀ y ∈ scope.names, y.2 = .free → sc.names.lookup y.1 = some .cell ∨ sc.names.lookup y.1 = some .free
def lamPB (sc scope : Scope) (a : Str) : Bool :=
  decide (scope.kind = .function) && !scope.isCoroutine && !scope.isGenerator && decide (scope.names.lookup a = some .local) && scope.names.all fun y => !decide (y.2 = .cell) && (!decide (y.2 = .free) || decide (sc.names.lookup y.1 = some .cell) || decide (sc.names.lookup y.1 = some .free))
theorem lamP_by {sc scope : Scope} {a : Str} (h : lamPB sc scope a = true) : LamP sc scope a := by
  unfold lamPB at h
  simp only [Bool.and_eq_true, Bool.or_eq_true, Bool.not_eq_true', decide_eq_true_eq, decide_eq_false_iff_not, List.all_eq_true] at h
  obtain ⟨⟨⟨⟨h1, h2⟩, h3⟩, h4⟩, h5⟩ := h
  refine ⟨h1, h2, h3, h4, fun y hy => (h5 y hy).1, fun y hy e => ?_⟩
  rcases (h5 y hy).2 with (z | z) | z
  · exact absurd e z
  · exact .inl z
  · exact .inr z
/-- the table of lambdas at P stands, all else is kept -/
def TbL (P : Addr) (q : Str) (H H2 : Hp) : Prop := TabS H2 P q ∧ ∀ b o, H b = some o → (∀ ps, o ≠ .tbl ps) → H2 b = some o
/-- what the body must tell: run in the lambda's frame, it gives the key of what the parameter holds -/
def KeyBody (X : Cx) (scope : Scope) (a : Str) (body : Expr) (Kf : L2.St → Hp → V → PyData → Prop) : Prop :=
  ∀ (pins : List (Addr × Obj)) (σ : L2.St) (H : Hp) (s s1 : Shared) (A : Around) (L f c' : Addr) (v : Value) (x : V) (d : PyData), Inv X pins σ H s → (∀ b o, s.heap.get? b = some o → s1.heap.get? b = some o) → s1.heap.Ns L (fun y => [(a, v)].lookup y) →
    RelV x v → Kf σ H x d → wpAny (model X.prog X.w) A (eval body (lamEnv X scope L f c')) (PySem.W.KeyPure d s1) (fun _ _ => False) s1
def tSortL (K : PySem.W.Frag) (P : Addr) (q : Str) (Kf : L2.St → Hp → V → PyData → Prop) (t : TA) : TE := fun σ H Q => t σ H fun vs H1 => TabS H1 P q ∧ ∃ (a : Addr) (xs : List V) (k : V → PyData), vs = [.ref a] ∧ SqL K H1 a xs ∧
  PySem.W.AllAlike (xs.map k) ∧ PySem.W.Sortable (xs.map k) ∧ (∀ x ∈ xs, (k x).depth ≤ 8) ∧ (∀ x ∈ xs, ∀ H2, TbL P q H1 H2 → Kf σ H2 x (k x)) ∧ ∀ H2 p, TbL P q H1 H2 → H2 p = none → Q (.ref p) (upd H2 p (.lst (xs.mergeSort (PySem.W.dataLe false k))))
theorem each_vals : ∀ {xs : List V} {us : List Value}, Vals xs us → PySem.W.EachIs (fun v x => RelV x v) us xs
  | _, _, .nil => .nil
  | _, _, .cons r t => .cons r (each_vals t)
theorem vals_each : ∀ {xs : List V} {us : List Value}, PySem.W.EachIs (fun v x => RelV x v) us xs → Vals xs us
  | _, _, .nil => .nil
  | _, _, .cons r t => .cons r (vals_each t)
section
variable {X : Cx} {c P : Addr} {e : Expr} {t : TA} {params : Arguments} {body : Expr} {scope : Scope} {a : Str} {lpos kpos p pos : Pos} {Kf : L2.St → Hp → V → PyData → Prop}
theorem pe_sortedL (TB : LamX.TabB X.base X.mg c P) (hcode : X.env.code = .ref c) (hg : Gl X "sorted") (hm : X.mg "sorted" = none) (hr : Room 3 X.A) (ha : PA X [e] t) (hdef : defaultsOf params X.env = ([], [])) (LP : LamP X.env.scope scope a)
    (hbind : ∀ (v pm ctv : Value) (c' : Addr), bindArgs (PySem.W.kla_fn "<lambda>" (X.env.qual ++ "<lambda>") params body scope (cloFrom X.env.cells scope.names []) pm (.ref c') ctv) ⟨[v], []⟩ = pure [(a, v)])
    (hkey : KeyBody X scope a body Kf) (h1 : backTo pos (starEach [e] X.env) = (false, eval e X.env) :: backTo pos (starEach [] X.env) := by rfl) (h2 : (backTo pos (starEach [e] X.env)).any (·.1) = false := by rfl) :
    PE X (.Call (.Name "sorted" p) [e] [⟨some "key", .Lambda params body scope lpos, kpos⟩] pos) (tSortL X.K P (X.env.qual ++ "<lambda>") Kf t) := by
  refine ⟨fun pins s σ H Q I h => ?_⟩
  refine wpAny_Call_Name_kw (ld_blt I hg hm (show bootBuiltins "sorted" = some (.builtin "sorted") by decide +kernel) ?_ (by decide) (by decide))
  refine PyProof.Rows.callWith_kw (thn (ha.run pos pins s σ H _ I h) fun us s1 ⟨vs, H1, I1, r1, hT, aL, xs, k, ev, hS, hal, hso, hdp, hkf, q1⟩ => ?_) h1 h2 rfl rfl
  subst ev
  obtain rfl := Vals.ref1 r1
  show wpAny _ _ (evalAll [do let v ← eval (.Lambda params body scope lpos) X.env; standAt pos; pure v]) _ _ s1
  have hfree : ∀ y ∈ scope.names, y.2 = .free → ∃ c, X.env.cells.lookup y.1 = some c := fun y hy e => by
    rcases LP.free y hy e with z | z
    · exact I.ok.has _ (.inl z)
    · exact I.ok.has _ (.inr z)
  refine wpAny_evalAll_cons (wpAny_bind (lam_make2 (T := [(P, X.env.qual ++ "<lambda>")]) I1 TB hcode (List.mem_cons_self ..) (fun p hp _ => by rw [List.mem_singleton.mp hp]) (fun p hp => by rw [List.mem_singleton.mp hp]; exact hT) hdef hfree
    fun f c' pm ctv H2 s2 I2 x2 T2 hf nf ff hc => wpAny_bind (wpAny_standAt (wpAny_pure (wpAny_evalAll_nil ?_)))))
  have tb2 : TbL P (X.env.qual ++ "<lambda>") H1 H2 := ⟨T2 _ (List.mem_cons_self ..), x2⟩
  have hS2 : SqL X.K H2 aL xs := by
    rcases hS with z | z
    · rcases z with z | ⟨o, z⟩
      · exact .inl (.inl (x2 _ _ z (fun _ w => nomatch w)))
      · exact .inl (.inr ⟨o, x2 _ _ z (fun _ w => nomatch w)⟩)
    · exact .inr z
  obtain ⟨its, rv, pl, hz⟩ := I2.list hS2
  show wpAny _ _ (call (.builtin "sorted") [.ref aL] [(Str.ofString "key", .ref f)]) _ _ s2
  have hun := hr.un
  refine PySem.W.sorted_key_data (R := fun v x => RelV x v) (bs := xs) (vs := its) (b := false) k pl.isList (each_vals rv) hal hso hz (fun x hx => by have := hdp x hx; omega) (PyProof.Rows.ksk_s1 _ _) (fun _ => PyProof.Rows.ksk_l1 _ _) (fun x => PyProof.Rows.ksk_t1 f x) (fun v x hR hx h tk kp => ?_) (fun out c h' tk kp n0 ho hl eo => ?_)
  · have I3 : Inv X pins σ H2 { s2 with heap := h, toks := tk } := I2.kept kp
    have hf3 := kp _ _ hf
    obtain ⟨⟨oc, vs', t', hoc, hdc, hvc⟩, _, _⟩ := I2.hok c' _ hc
    have hr2 : Room 1 X.A.in1.in1 := hr.in1.in1
    refine wpAny_call (codeAny_mono (R := fun r s' => ∃ u, r = .ok (.ret u) ∧ PySem.W.KeyPure (k x) { s2 with heap := h, toks := tk } u s') ?_ fun r s' hq => ?_)
    · refine PySem.W.kla_callFunE (by have := hr2.dp; omega) hf3 rfl LP.co LP.gen rfl ⟨c', oc, vs', t', rfl, kp _ _ hoc, hdc, hvc⟩ ?_
      rw [hbind]
      refine wpAny_pure (wpAny_newFunctionEnv (fun y hy => LP.own y hy) (fun y hy => by rw [List.mem_singleton.mp hy]; exact LP.par) (fun h₁ hns hsb => ⟨I3.nolimit.fresh _ hsb, ?_⟩) LP.kind)
      have kp1 : ∀ b o, h.get? b = some o → h₁.get? b = some o := fun b o e => hsb.extBut b o (Nat.ne_of_lt (Heap.lt_size e)) (Heap.get?_push_of_some _ e)
      show codeAny _ _ (.expr body (lamEnv X scope h.objs.size f c')) _ _
      refine PySem.W.kla_codeExpr (wpAny_mono (hkey pins σ H2 { s2 with heap := h, toks := tk } { s2 with heap := h₁, toks := tk + 1 } _ h.objs.size f c' v x (k x) I3 kp1 hns hR (hkf x hx H2 tb2)) (fun u s' hq => ?_) fun _ _ z => z.elim)
      obtain ⟨h5, tk5, rfl, k5, rd⟩ := hq
      exact ⟨u, rfl, h5, tk5, rfl, fun b o e => k5 b o (kp1 b o e), rd⟩
    · obtain ⟨u, rfl, hk⟩ := hq
      exact hk
  · have hlen : (xs.mergeSort (PySem.W.dataLe false k)).length ≤ sizeLine := by rw [List.length_mergeSort]; exact hz
    have np : H2 (s2.heap.objs.size + 1) = none := I2.hok.fresh (Nat.le_succ _)
    exact ⟨.ref _, upd H2 (s2.heap.objs.size + 1) (.lst (xs.mergeSort (PySem.W.dataLe false k))), I2.laid (t' := tk) kp (Nat.le_succ _) ⟨hlen, _, c, vals_each eo, ho⟩, rfl, q1 H2 _ tb2 np⟩
end

/-- an expression that changes nothing but the count of tokens -/
def Gv (prog : Program) (w : World) (A : Around) (env : Env) (e : Expr) (s : Shared) (R : Value → Prop) : Prop := ∀ (tk0 : Nat) (Q : Value → Shared → Prop) (E : Value → Shared → Prop), (∀ u tk, R u → Q u { s with toks := tk }) → wpAny (model prog w) A (eval e env) Q E { s with toks := tk0 }
section
variable {prog : Program} {w : World} {A : Around} {env : Env} {s : Shared} {e b : Expr} {pos : Pos}
theorem gv_int {i : Int} {j : Nat} : Gv prog w A env (.Constant (.int i) j pos) s (fun u => ∃ t, u = .int i t) := fun _ _ _ h => wpAny_Constant_int (h _ _ ⟨_, rfl⟩)
theorem gv_neg {i : Int} (ha : Gv prog w A env e s (fun u => ∃ t, u = .int i t)) : Gv prog w A env (.UnaryOp .USub e pos) s (fun u => ∃ t, u = .int (-i) t) := fun tk0 Q E h =>
  PyProof.Rows.UnaryOp_ (ha tk0 _ _ fun u tk ⟨t, e⟩ => by rw [e]; exact neg_int (h _ _ ⟨_, rfl⟩))
theorem gv_loc {x : Str} {m : Str → Option Value} {v : Value} (hk : env.scope.kind = .function) (hl : env.kindOf x = some .local) (hn : s.heap.Ns env.locals m) (hv : m x = some v) (hd : (x == ("__debug__" : Str)) = false := by decide) : Gv prog w A env (.Name x pos) s (fun u => u = v) := fun tk0 Q E h =>
  wpAny_Name (wpAny_loadName_local (s := { s with toks := tk0 }) hk hl hn hv (h v tk0 rfl)) hd
theorem gv_free {x : Str} {c : Addr} {v : Value} (hk : env.scope.kind = .function) (hl : env.kindOf x = some .free) (hc : env.cells.lookup x = some c) (hv : s.heap.IsCell c (some v)) (hd : (x == ("__debug__" : Str)) = false := by decide) (hcd : (x == ("__classdict__" : Str)) = false := by decide) : Gv prog w A env (.Name x pos) s (fun u => u = v) := fun tk0 Q E h =>
  wpAny_Name (wpAny_loadName_free (s := { s with toks := tk0 }) hk hl hc hv (h v tk0 rfl) hcd) hd
theorem gv_ixT {t : Addr} {its : List Value} {i : Int} {v : Value} (ha : Gv prog w A env e s (fun u => u = .ref t)) (hb : Gv prog w A env b s (fun u => ∃ t, u = .int i t)) (pl : IsTup s.heap t its.toArray) (hz : its.length ≤ sizeLine) (hv : atI its i = some v) (hs : PlainIx b) : Gv prog w A env (.Subscript e b pos) s (fun u => u = v) := fun tk0 Q E h => by
  refine PyProof.Rows.Subscript_ (ha tk0 _ _ fun u tk eu => hb tk _ _ fun u2 tk2 ⟨t2, e2⟩ => ?_)
  subst eu
  subst e2
  obtain ⟨j, h1, h2, h3, h4, h5⟩ := atI_get hv
  have hn := line63
  exact subscriptTail_builtinR (x := v) pl.typeIs slot_tuple_getitem.lookup (getItem_tuple (s := { s with toks := tk2 }) (j := j) (Q := fun r s' => r = v ∧ Q r s') pl (by omega) (by omega) (by rw [List.size_toArray]; exact h1) (by simpa using h2) ⟨rfl, h v tk2 rfl⟩) (hs _ _)
theorem gv_ixL {t : Addr} {its : List Value} {i : Int} {v : Value} (ha : Gv prog w A env e s (fun u => u = .ref t)) (hb : Gv prog w A env b s (fun u => ∃ t, u = .int i t)) (pl : PlainL s.heap t its.toArray) (hz : its.length ≤ sizeLine) (hv : atI its i = some v) (hs : PlainIx b) : Gv prog w A env (.Subscript e b pos) s (fun u => u = v) := fun tk0 Q E h => by
  refine PyProof.Rows.Subscript_ (ha tk0 _ _ fun u tk eu => hb tk _ _ fun u2 tk2 ⟨t2, e2⟩ => ?_)
  subst eu
  subst e2
  obtain ⟨j, h1, h2, h3, h4, h5⟩ := atI_get hv
  have hn := line63
  by_cases h0 : 0 ≤ i
  · have hj : i.toNat = j := by
      rw [seqIndex_of h0 h5] at h1
      exact Option.some.inj h1
    exact item_listR (s := { s with toks := tk2 }) pl.isList h0 (by omega) (by rw [hj]; simpa using h2) (h v tk2 rfl) (hs _ _)
  · have hj : (i + (its.toArray.size : Int)).toNat = j := by
      rw [seqIndex_neg (by omega) h4] at h1
      rw [List.size_toArray]
      exact Option.some.inj h1
    exact subscriptTail_builtinR (x := v) pl.isList.typeIs slot_list_getitem.lookup
      (wpAny_getItem_list_neg (s := { s with toks := tk2 }) (Q := fun r s' => r = v ∧ Q r s') pl.isList (by omega) (by rw [List.size_toArray] <;> omega) (by omega) (by rw [hj]; simpa using h2) ⟨rfl, h v tk2 rfl⟩) (hs _ _)
end
/-! ### the keys -/
theorem vals_at {xs : List V} {us : List Value} (r : Vals xs us) {i : Int} {x : V} (h : atI xs i = some x) : ∃ u, atI us i = some u ∧ RelV x u := by
  unfold atI at h ⊢
  rw [← r.length]
  cases e : ixN xs.length i with
  | none => rw [e] at h; cases h
  | some j =>
    rw [e] at h
    exact r.get h
section
variable {X : Cx} {scope : Scope} {a : Str} {p1 p2 p3 p4 p5 p6 p7 p8 p9 : Pos} {j1 j2 j3 : Nat}
/-- lambda a: (a[0], a[1]) -/
def KfPair (K : PySem.W.Frag) : L2.St → Hp → V → PyData → Prop := fun _ H x d => ∃ (t : Addr) (xs : List V) (i j : Int), x = .ref t ∧ SqT K H t xs ∧ atI xs 0 = some (.int i) ∧ atI xs 1 = some (.int j) ∧ d = .tuple [.int i, .int j]
theorem key_pair {x1 : Nat} (LP : LamP X.env.scope scope a) (hd : (a == ("__debug__" : Str)) = false) : KeyBody X scope a (.Tuple [.Subscript (.Name a p1) (.Constant (.int 0) j1 p2) p3, .Subscript (.Name a p4) (.Constant (.int 1) j2 p5) p6] x1 p7) (KfPair X.K) := by
  intro pins σ H s s1 A L f c' v x d I kp hn r h
  obtain ⟨t, xs, i, j, rfl, hS, e0, e1, rfl⟩ := h
  have I1 : Inv X pins σ H { s with heap := s1.heap, toks := s.toks } := I.kept kp
  obtain ⟨its, rv, pl, hz⟩ := I1.tuple hS
  obtain ⟨u0, a0, t0, rfl⟩ := vals_at rv e0
  obtain ⟨u1, a1, t1, rfl⟩ := vals_at rv e1
  cases r
  have hz' : its.length ≤ sizeLine := by rw [← rv.length]; exact hz
  have nm : ∀ p, Gv X.prog X.w A (lamEnv X scope L f c') (.Name a p) s1 (fun u => u = .ref t) := fun p => gv_loc LP.kind LP.par hn (by simp) hd
  refine wpAny_Tuple_spliced ?_
  show wpAny _ _ (spliced [(false, eval (.Subscript (.Name a p1) (.Constant (.int 0) j1 p2) p3) (lamEnv X scope L f c')), (false, eval (.Subscript (.Name a p4) (.Constant (.int 1) j2 p5) p6) (lamEnv X scope L f c'))]) _ _ s1
  refine Calls.spliced_cons (gv_ixT (nm p1) gv_int pl hz' a0 (fun _ _ => rfl) s1.toks _ _ fun u tk eu => Calls.spliced_cons (gv_ixT (nm p4) gv_int pl hz' a1 (fun _ _ => rfl) tk _ _ fun u2 tk2 eu2 => Calls.spliced_nil ⟨(by show 2 ≤ sizeLine; decide), ?_⟩))
  subst eu
  subst eu2
  exact ⟨_, tk2, rfl, fun b o e => Heap.get?_push_of_some _ e, .tuple (Heap.get?_push_size _ rfl) rfl rfl (.cons (.int _ _) (.cons (.int _ _) .nil))⟩
/-- what is captured at slot i, as the lambda reads it -/
theorem cap_at {i : Nat} {y : Str} {v : V} {pins : List (Addr × Obj)} {σ : L2.St} {H : Hp} {s : Shared} (I : Inv X pins σ H s) (LP : LamP X.env.scope scope a) (hN : X.N[i]? = some y) (hc : X.env.scope.names.lookup y = some .cell) (hy : scope.names.lookup y = some .free) (hv : σ[i]? = some (some v)) :
    ∃ c u, (cloFrom X.env.cells scope.names []).lookup y = some c ∧ s.heap.IsCell c (some u) ∧ RelV v u := by
  obtain ⟨m, hn, look⟩ := I.loc
  obtain ⟨u, r, l⟩ := look i y v hN hv (.inr (.inl hc))
  rcases l with ⟨z, _⟩ | ⟨_, c, e, hcell⟩
  · rw [show X.env.kindOf y = some .cell from hc] at z
    cases z
  · obtain ⟨c2, h2⟩ := mem_lookup (cloFrom_has (cells := X.env.cells) (acc := []) (PySem.mem_of_lookup hy))
    refine ⟨c2, u, h2, ?_, r⟩
    rcases cloFrom_mem (PySem.mem_of_lookup h2) with hm | ⟨_, w⟩
    · cases hm
    · have w2 : c2 = c := by rw [w, e]; rfl
      rw [w2]
      exact hcell
/-- lambda a: y[a][1], y captured: a list of tuples -/
def KfAt1 (K : PySem.W.Frag) (i : Nat) : L2.St → Hp → V → PyData → Prop := fun σ H x d => ∃ (l t : Addr) (ls ts : List V) (n k : Int), σ[i]? = some (some (.ref l)) ∧ x = .int n ∧ SqL K H l ls ∧ atI ls n = some (.ref t) ∧ SqT K H t ts ∧ atI ts 1 = some (.int k) ∧ d = .int k
theorem key_at1 {i : Nat} {y : Str} (LP : LamP X.env.scope scope a) (hN : X.N[i]? = some y) (hc : X.env.scope.names.lookup y = some .cell) (hy : scope.names.lookup y = some .free) (hd : (a == ("__debug__" : Str)) = false) (hd2 : (y == ("__debug__" : Str)) = false) (hcd : (y == ("__classdict__" : Str)) = false) :
    KeyBody X scope a (.Subscript (.Subscript (.Name y p1) (.Name a p2) p3) (.Constant (.int 1) j1 p4) p5) (KfAt1 X.K i) := by
  intro pins σ H s s1 A L f c' v x d I kp hn r h
  obtain ⟨l, t, ls, ts, n, k, hv, rfl, hS, e0, hT, e1, rfl⟩ := h
  obtain ⟨tn, rfl⟩ := r
  have I1 : Inv X pins σ H { s with heap := s1.heap, toks := s.toks } := I.kept kp
  obtain ⟨c, u, g1, g2, g3⟩ := cap_at I1 LP hN hc hy hv
  cases g3
  obtain ⟨its, rv, pl, hz⟩ := I1.list hS
  obtain ⟨jts, rw', pt, hz2⟩ := I1.tuple hT
  obtain ⟨u0, a0, w0⟩ := vals_at rv e0
  cases w0
  obtain ⟨u1, a1, t1, rfl⟩ := vals_at rw' e1
  have ny : ∀ p, Gv X.prog X.w A (lamEnv X scope L f c') (.Name y p) s1 (fun u => u = .ref l) := fun p => gv_free LP.kind hy g1 g2 hd2 hcd
  have na : ∀ p, Gv X.prog X.w A (lamEnv X scope L f c') (.Name a p) s1 (fun u => ∃ t, u = .int n t) := fun p tk0 Q E h => (gv_loc (pos := p) LP.kind LP.par hn (by simp) hd : Gv X.prog X.w A (lamEnv X scope L f c') (.Name a p) s1 (fun u => u = .int n tn)) tk0 Q E fun u tk eu => h u tk ⟨tn, eu⟩
  refine gv_ixT (gv_ixL (ny p1) (na p2) pl (by rw [← rv.length]; exact hz) a0 (fun _ _ => rfl)) gv_int pt (by rw [← rw'.length]; exact hz2) a1 (fun _ _ => rfl) s1.toks _ _ fun u tk eu => ?_
  subst eu
  exact ⟨s1.heap, tk, rfl, fun _ _ e => e, .int _ _⟩
/-- lambda a: y[a][-1][1], y captured: a list of lists of tuples -/
def KfLast1 (K : PySem.W.Frag) (i : Nat) : L2.St → Hp → V → PyData → Prop := fun σ H x d => ∃ (l m t : Addr) (ls ms ts : List V) (n k : Int), σ[i]? = some (some (.ref l)) ∧ x = .int n ∧ SqL K H l ls ∧ atI ls n = some (.ref m) ∧ SqL K H m ms ∧ atI ms (-1) = some (.ref t) ∧ SqT K H t ts ∧ atI ts 1 = some (.int k) ∧ d = .int k
theorem key_last1 {i : Nat} {y : Str} (LP : LamP X.env.scope scope a) (hN : X.N[i]? = some y) (hc : X.env.scope.names.lookup y = some .cell) (hy : scope.names.lookup y = some .free) (hd : (a == ("__debug__" : Str)) = false) (hd2 : (y == ("__debug__" : Str)) = false) (hcd : (y == ("__classdict__" : Str)) = false) :
    KeyBody X scope a (.Subscript (.Subscript (.Subscript (.Name y p1) (.Name a p2) p3) (.UnaryOp .USub (.Constant (.int 1) j2 p6) p7) p8) (.Constant (.int 1) j1 p4) p5) (KfLast1 X.K i) := by
  intro pins σ H s s1 A L f c' v x d I kp hn r h
  obtain ⟨l, m, t, ls, ms, ts, n, k, hv, rfl, hS, e0, hM, em, hT, e1, rfl⟩ := h
  obtain ⟨tn, rfl⟩ := r
  have I1 : Inv X pins σ H { s with heap := s1.heap, toks := s.toks } := I.kept kp
  obtain ⟨c, u, g1, g2, g3⟩ := cap_at I1 LP hN hc hy hv
  cases g3
  obtain ⟨its, rv, pl, hz⟩ := I1.list hS
  obtain ⟨kts, rk, pk, hz3⟩ := I1.list hM
  obtain ⟨jts, rw', pt, hz2⟩ := I1.tuple hT
  obtain ⟨u0, a0, w0⟩ := vals_at rv e0
  cases w0
  obtain ⟨u2, a2, w2⟩ := vals_at rk em
  cases w2
  obtain ⟨u1, a1, t1, rfl⟩ := vals_at rw' e1
  have ny : ∀ p, Gv X.prog X.w A (lamEnv X scope L f c') (.Name y p) s1 (fun u => u = .ref l) := fun p => gv_free LP.kind hy g1 g2 hd2 hcd
  have na : ∀ p, Gv X.prog X.w A (lamEnv X scope L f c') (.Name a p) s1 (fun u => ∃ t, u = .int n t) := fun p tk0 Q E h => (gv_loc (pos := p) LP.kind LP.par hn (by simp) hd : Gv X.prog X.w A (lamEnv X scope L f c') (.Name a p) s1 (fun u => u = .int n tn)) tk0 Q E fun u tk eu => h u tk ⟨tn, eu⟩
  refine gv_ixT (gv_ixL (gv_ixL (ny p1) (na p2) pl (by rw [← rv.length]; exact hz) a0 (fun _ _ => rfl)) (gv_neg gv_int) pk (by rw [← rk.length]; exact hz3) a2 (fun _ _ => rfl)) gv_int pt (by rw [← rw'.length]; exact hz2) a1 (fun _ _ => rfl) s1.toks _ _ fun u tk eu => ?_
  subst eu
  exact ⟨s1.heap, tk, rfl, fun _ _ e => e, .int _ _⟩
end

open LamX
/-! ### sorted(range(n), key=lambda a: ..) -/
theorem cr_range1 {X : Cx} : CallR X (.type "range") (fun vs H Q => ∃ j, vs = [V.int j] ∧ ∀ p, H p = none → Q (.ref p) (upd H p (.rng 0 j))) := fun pins s σ H vs us Q I r h => by
  obtain ⟨j, rfl, q⟩ := h
  obtain ⟨u, rfl, t, rfl⟩ := vals1 r
  refine call_range_1 ⟨.ref s.heap.objs.size, upd H s.heap.objs.size (.rng 0 j), I.laid (t' := s.toks + 1 + 1) (fun b o e => Heap.get?_push_of_some _ e) (Nat.le_refl _) ?_, rfl, q _ (I.hok.fresh (Nat.le_refl _))⟩
  exact ⟨s.toks, t, s.toks + 1, Heap.get?_push_size _ rfl⟩
abbrev rngV (n : Nat) : List V := (List.range n).map fun i : Nat => V.int (i : Int)
theorem vals_of : ∀ {xs : List V} {us : List Value}, xs.length = us.length → (∀ (j : Nat) x u, xs[j]? = some x → us[j]? = some u → RelV x u) → Vals xs us
  | [], [], _, _ => .nil
  | [], _ :: _, h, _ => nomatch h
  | _ :: _, [], h, _ => nomatch h
  | x :: xs, u :: us, h, r => .cons (r 0 x u rfl rfl) (vals_of (Nat.succ.inj h) fun j y w e1 e2 => r (j + 1) y w e1 e2)
section
variable {prog : Program} {w : World} {A : Around} {E : Value → Shared → Prop} {s : Shared}
theorem sorted_key_range {r : Addr} {f : Addr} {n : Nat} {t u v : Tok} {Q : Value → Shared → Prop} (k : V → PyData) (hh : A.handled = none) (hr : IsRange s.heap r 0 (n : Int) 1 t u v) (hn : n ≤ 10000) (hal : PySem.W.AllAlike ((rngV n).map k)) (hk : PySem.W.Sortable ((rngV n).map k))
    (hu : ∀ x, x ∈ rngV n → A.units + 2 + (k x).depth < cLine)
    (turn : ∀ (v : Value) (x : V), RelV x v → x ∈ rngV n → ∀ (h : Heap) (tk : Nat), (∀ b o, s.heap.get? b = some o → h.get? b = some o) →
      wpAny (model prog w) A.in1.in1 (call (.ref f) [v]) (PySem.W.KeyPure (k x) { s with heap := h, toks := tk }) (fun _ _ => False) { s with heap := h, toks := tk })
    (h : ∀ p out c h' tk, s.heap.get? p = none → (∀ b o, s.heap.get? b = some o → h'.get? b = some o) → h'.get? p = some (seqObj "list" (List.toArray out) c) → Vals ((rngV n).mergeSort (PySem.W.dataLe false k)) out →
      Q (.ref p) { s with heap := h', toks := tk }) :
    wpAny (model prog w) A (call (.builtin "sorted") [.ref r] [(Str.ofString "key", .ref f)]) Q E s := by
  refine call_function_entry_kw kind_sorted plain_sorted entry_sorted (PyProof.Rows.ksk_s1 _ _) ?_
  unfold Builtin.«sorted»
  refine wpAny_bind (m := checkCount "sorted" 1 1 _) (wpAny_pure ?_)
  refine wpAny_bind (collect_range (n := n) (A := A.in1) hh hr ?_ ?_ (by omega) fun h1 tk1 acc k1 hi => ?_)
  · exact small_one (by decide) (by decide) (by omega) (by omega)
  · rw [rangeSize_one]
    split <;> omega
  · have hL : acc.toList.length ≤ sizeLine := by rw [Array.length_toList, hi.1]; exact Nat.le_trans hn (by decide)
    refine wpAny_bind (wpAny_newList ?_ hL)
    refine wpAny_bind (wpAny_holding (wpAny_call_entry_kw slot_list_sort ⟨_, Heap.get?_push_size _ rfl, rfl⟩ entry_list_sort ?body (PyProof.Rows.ksk_l1 _ _)))
    case body =>
      rw [PyProof.Rows.ksk_t1]
      have ev : PySem.W.EachIs (fun v x => RelV x v) acc.toList (rngV n) := by
        refine each_vals (vals_of (by rw [List.length_map, List.length_range, Array.length_toList, hi.1]) fun j x u e1 e2 => ?_)
        obtain ⟨t, rfl⟩ := hi.2 j u (by simpa using e2)
        rw [List.getElem?_map] at e1
        cases e3 : (List.range n)[j]? with
        | none => rw [e3] at e1; cases e1
        | some m =>
          rw [e3] at e1
          cases e1
          have : m = j := by
            have := List.getElem?_eq_some_iff.mp e3
            obtain ⟨hj, e⟩ := this
            rw [List.getElem_range] at e
            exact e.symm
          subst this
          exact ⟨t, by simp⟩
      have fr : ∀ b o, s.heap.get? b = some o → b ≠ h1.objs.size := fun b o e => Nat.ne_of_lt (Heap.lt_size (k1 b o e))
      refine PySem.W.keyH_tree (b := false) (vs := acc.toList) (kz := (rngV n).map k) (s := { s with heap := h1.push (seqObj "list" acc.toList.toArray 0), toks := tk1 }) (Heap.get?_push_size _ rfl) (by rw [List.length_map]; exact ev.length.symm) hL hal hk (fun d hd => by obtain ⟨x, hx, rfl⟩ := List.mem_map.mp hd; exact hu x hx)
        (PySem.W.keyH_turns (h₁ := h1.push (seqObj "list" acc.toList.toArray 0)) (s := { s with heap := h1.push (seqObj "list" acc.toList.toArray 0), toks := tk1 }) ev fun v x hR hx h' tk kp => turn v x hR hx h' tk fun b o e => kp b o (fr b o e) (Heap.get?_push_of_some _ (k1 b o e))) fun h' tk out c kp hD ko => ?_
      refine ⟨.none, rfl, wpAny_pure ⟨_, rfl, ?_⟩⟩
      have nn : s.heap.get? h1.objs.size = none := by
        cases e : s.heap.get? h1.objs.size with
        | none => rfl
        | some o => exact absurd rfl (fr _ _ e)
      exact h h1.objs.size out c h' tk nn (fun b o e => kp b o (fr b o e) (Heap.get?_push_of_some _ (k1 b o e))) hD (vals_each (PySem.W.keyedOut_each k ko ev))
end

def tSortLR (P : Addr) (q : Str) (Kf : L2.St → Hp → V → PyData → Prop) (t : TA) : TE := fun σ H Q => t σ H fun vs H1 => TabS H1 P q ∧ ∃ (a : Addr) (n : Nat) (k : V → PyData), vs = [.ref a] ∧ H1 a = some (.rng 0 (n : Int)) ∧ n ≤ 10000 ∧
  PySem.W.AllAlike ((rngV n).map k) ∧ PySem.W.Sortable ((rngV n).map k) ∧ (∀ x ∈ rngV n, (k x).depth ≤ 8) ∧ (∀ x ∈ rngV n, ∀ H2, TbL P q H1 H2 → Kf σ H2 x (k x)) ∧ ∀ H2 p, TbL P q H1 H2 → H2 p = none → Q (.ref p) (upd H2 p (.lst ((rngV n).mergeSort (PySem.W.dataLe false k))))
section
variable {X : Cx} {c P : Addr} {e : Expr} {t : TA} {params : Arguments} {body : Expr} {scope : Scope} {a : Str} {lpos kpos p pos : Pos} {Kf : L2.St → Hp → V → PyData → Prop}
theorem pe_sortedLR (TB : LamX.TabB X.base X.mg c P) (hcode : X.env.code = .ref c) (hg : Gl X "sorted") (hm : X.mg "sorted" = none) (hr : Room 3 X.A) (ha : PA X [e] t) (hdef : defaultsOf params X.env = ([], [])) (LP : LamP X.env.scope scope a)
    (hbind : ∀ (v pm ctv : Value) (c' : Addr), bindArgs (PySem.W.kla_fn "<lambda>" (X.env.qual ++ "<lambda>") params body scope (cloFrom X.env.cells scope.names []) pm (.ref c') ctv) ⟨[v], []⟩ = pure [(a, v)])
    (hkey : KeyBody X scope a body Kf) (h1 : backTo pos (starEach [e] X.env) = (false, eval e X.env) :: backTo pos (starEach [] X.env) := by rfl) (h2 : (backTo pos (starEach [e] X.env)).any (·.1) = false := by rfl) :
    PE X (.Call (.Name "sorted" p) [e] [⟨some "key", .Lambda params body scope lpos, kpos⟩] pos) (tSortLR P (X.env.qual ++ "<lambda>") Kf t) := by
  refine ⟨fun pins s σ H Q I h => ?_⟩
  refine wpAny_Call_Name_kw (ld_blt I hg hm (show bootBuiltins "sorted" = some (.builtin "sorted") by decide +kernel) ?_ (by decide) (by decide))
  refine PyProof.Rows.callWith_kw (thn (ha.run pos pins s σ H _ I h) fun us s1 ⟨vs, H1, I1, r1, hT, aL, n, k, ev, hS, hn, hal, hso, hdp, hkf, q1⟩ => ?_) h1 h2 rfl rfl
  subst ev
  obtain rfl := Vals.ref1 r1
  show wpAny _ _ (evalAll [do let v ← eval (.Lambda params body scope lpos) X.env; standAt pos; pure v]) _ _ s1
  have hfree : ∀ y ∈ scope.names, y.2 = .free → ∃ c, X.env.cells.lookup y.1 = some c := fun y hy e => by
    rcases LP.free y hy e with z | z
    · exact I.ok.has _ (.inl z)
    · exact I.ok.has _ (.inr z)
  refine wpAny_evalAll_cons (wpAny_bind (lam_make2 (T := [(P, X.env.qual ++ "<lambda>")]) I1 TB hcode (List.mem_cons_self ..) (fun p hp _ => by rw [List.mem_singleton.mp hp]) (fun p hp => by rw [List.mem_singleton.mp hp]; exact hT) hdef hfree
    fun f c' pm ctv H2 s2 I2 x2 T2 hf nf ff hc => wpAny_bind (wpAny_standAt (wpAny_pure (wpAny_evalAll_nil ?_)))))
  have tb2 : TbL P (X.env.qual ++ "<lambda>") H1 H2 := ⟨T2 _ (List.mem_cons_self ..), x2⟩
  have hS2 : H2 aL = some (.rng 0 (n : Int)) := x2 _ _ hS (fun _ w => nomatch w)
  obtain ⟨t0, t1, t2, hra⟩ := (show ObjOk X.prog X.w H2 s2.heap aL (.rng 0 (n : Int)) from I2.hok aL _ hS2)
  show wpAny _ _ (call (.builtin "sorted") [.ref aL] [(Str.ofString "key", .ref f)]) _ _ s2
  have hun := hr.un
  refine sorted_key_range k hr.hd hra hn hal hso (fun x hx => by have := hdp x hx; omega) (fun v x hR hx h tk kp => ?_) (fun pn out c h' tk n0 kp ho eo => ?_)
  · have I3 : Inv X pins σ H2 { s2 with heap := h, toks := tk } := I2.kept kp
    have hf3 := kp _ _ hf
    obtain ⟨⟨oc, vs', t', hoc, hdc, hvc⟩, _, _⟩ := I2.hok c' _ hc
    have hr2 : Room 1 X.A.in1.in1 := hr.in1.in1
    refine wpAny_call (codeAny_mono (R := fun r s' => ∃ u, r = .ok (.ret u) ∧ PySem.W.KeyPure (k x) { s2 with heap := h, toks := tk } u s') ?_ fun r s' hq => ?_)
    · refine PySem.W.kla_callFunE (by have := hr2.dp; omega) hf3 rfl LP.co LP.gen rfl ⟨c', oc, vs', t', rfl, kp _ _ hoc, hdc, hvc⟩ ?_
      rw [hbind]
      refine wpAny_pure (wpAny_newFunctionEnv (fun y hy => LP.own y hy) (fun y hy => by rw [List.mem_singleton.mp hy]; exact LP.par) (fun h₁ hns hsb => ⟨I3.nolimit.fresh _ hsb, ?_⟩) LP.kind)
      have kp1 : ∀ b o, h.get? b = some o → h₁.get? b = some o := fun b o e => hsb.extBut b o (Nat.ne_of_lt (Heap.lt_size e)) (Heap.get?_push_of_some _ e)
      show codeAny _ _ (.expr body (lamEnv X scope h.objs.size f c')) _ _
      refine PySem.W.kla_codeExpr (wpAny_mono (hkey pins σ H2 { s2 with heap := h, toks := tk } { s2 with heap := h₁, toks := tk + 1 } _ h.objs.size f c' v x (k x) I3 kp1 hns hR (hkf x hx H2 tb2)) (fun u s' hq => ?_) fun _ _ z => z.elim)
      obtain ⟨h5, tk5, rfl, k5, rd⟩ := hq
      exact ⟨u, rfl, h5, tk5, rfl, fun b o e => k5 b o (kp1 b o e), rd⟩
    · obtain ⟨u, rfl, hk⟩ := hq
      exact hk
  · have hlen : ((rngV n).mergeSort (PySem.W.dataLe false k)).length ≤ sizeLine := by rw [List.length_mergeSort, List.length_map, List.length_range]; exact Nat.le_trans hn (by decide)
    have np : H2 pn = none := HOk.gone (show HOk X.prog X.w H2 s2.heap from I2.hok) n0
    exact ⟨.ref _, upd H2 pn (.lst ((rngV n).mergeSort (PySem.W.dataLe false k))), Inv.laidN (t' := tk) I2 kp n0 np ⟨hlen, _, c, eo, ho⟩, rfl, q1 H2 _ tb2 np⟩
end

theorem nodup_len {α : Type} [DecidableEq α] : ∀ {l m : List α}, l.Nodup → (∀ x ∈ l, x ∈ m) → l.length ≤ m.length
  | [], _, _, _ => Nat.zero_le _
  | x :: r, m, nd, h => by
    have nx := (List.nodup_cons.mp nd).1
    have ih := nodup_len (m := m.erase x) (List.nodup_cons.mp nd).2 fun y hy => by
      have hne : y ≠ x := fun e => nx (e ▸ hy)
      exact (List.mem_erase_of_ne hne).mpr (h y (List.mem_cons_of_mem _ hy))
    have e := List.length_erase_of_mem (h x (List.mem_cons_self ..))
    have pos : 0 < m.length := List.length_pos_of_mem (h x (List.mem_cons_self ..))
    rw [List.length_cons]
    omega

/-! ### min of pairs -/
def lexLe (p q : Int × Int) : Prop := p.1 < q.1 ∨ (p.1 = q.1 ∧ p.2 ≤ q.2)
instance (p q : Int × Int) : Decidable (lexLe p q) := by unfold lexLe; infer_instance
theorem lexLe.refl (p : Int × Int) : lexLe p p := .inr ⟨rfl, Int.le_refl _⟩
theorem lexLe.trans {p q r : Int × Int} (h : lexLe p q) (h' : lexLe q r) : lexLe p r := by
  unfold lexLe at *
  omega
theorem lexLe.total {p q : Int × Int} (h : ¬ lexLe p q) : lexLe q p := by
  unfold lexLe at *
  omega
theorem lt_pairs (p q : Int × Int) : PySem.W.dataLt (pairD q) (pairD p) = !decide (lexLe p q) := by
  have h := congrFun (congrFun (PySem.W.dataLe_ii (fun x : Int × Int => x.1) (fun x : Int × Int => x.2)) p) q
  have h' : (!PySem.W.dataLt (pairD q) (pairD p)) = decide (p.1 < q.1 ∨ (p.1 = q.1 ∧ p.2 ≤ q.2)) := h
  have e : decide (lexLe p q) = decide (p.1 < q.1 ∨ (p.1 = q.1 ∧ p.2 ≤ q.2)) := by unfold lexLe; rfl
  rw [e, ← h', Bool.not_not]
theorem min_pairs : ∀ (ps : List (Int × Int)) (p : Int × Int), ∃ m, m ∈ p :: ps ∧ (∀ q ∈ p :: ps, lexLe m q) ∧ PySem.W.minD (pairD p) (ps.map pairD) = pairD m
  | [], p => ⟨p, List.mem_cons_self .., fun q hq => by rw [List.mem_singleton.mp hq]; exact lexLe.refl p, rfl⟩
  | q :: ps, p => by
    have e : PySem.W.minD (pairD p) ((q :: ps).map pairD) = PySem.W.minD (if PySem.W.dataLt (pairD q) (pairD p) then pairD q else pairD p) (ps.map pairD) := rfl
    rw [e, lt_pairs p q]
    by_cases c : lexLe p q
    · rw [decide_eq_true c]
      obtain ⟨m, h1, h2, h3⟩ := min_pairs ps p
      refine ⟨m, ?_, fun x hx => ?_, h3⟩
      · rcases List.mem_cons.mp h1 with z | z
        · rw [z]; exact List.mem_cons_self ..
        · exact List.mem_cons_of_mem _ (List.mem_cons_of_mem _ z)
      · rcases List.mem_cons.mp hx with z | z
        · rw [z]; exact h2 p (List.mem_cons_self ..)
        · rcases List.mem_cons.mp z with y | y
          · rw [y]; exact (h2 p (List.mem_cons_self ..)).trans c
          · exact h2 x (List.mem_cons_of_mem _ y)
    · rw [decide_eq_false c]
      obtain ⟨m, h1, h2, h3⟩ := min_pairs ps q
      refine ⟨m, List.mem_cons_of_mem _ h1, fun x hx => ?_, h3⟩
      rcases List.mem_cons.mp hx with z | z
      · rw [z]; exact (h2 q (List.mem_cons_self ..)).trans (lexLe.total c)
      · exact h2 x z
theorem Reads.int_inj {h : Heap} {v : Value} {i j : Int} {as : List Addr} (r : Reads h v (.int j) as) (e : ∃ t, v = .int i t) : i = j := by
  obtain ⟨t, rfl⟩ := e
  cases r
  rfl
theorem reads_prs {X : Cx} {pins : List (Addr × Obj)} {σ : L2.St} {H : Hp} {s : Shared} (I : Inv X pins σ H s) : ∀ {us : List V} {ps : List (Int × Int)} {its : List Value}, Prs H us ps → Vals us its → ReadsAll s.heap its (ps.map pairD) []
  | [], [], _, _, .nil => .nil
  | [], _ :: _, _, h, _ => nomatch h.1
  | _ :: _, [], _, h, _ => nomatch h.1
  | u :: us, p :: ps, _, h, .cons (b := b) r t => by
    obtain ⟨a, e1, e2⟩ := h.2 0 p rfl
    have eu : u = .ref a := Option.some.inj e1
    subst eu
    cases r
    obtain ⟨ta, tb, hT⟩ := pair_in I e2
    have rest := reads_prs I (ps := ps) ⟨Nat.succ.inj h.1, fun i q e => h.2 (i + 1) q e⟩ t
    obtain ⟨o, ho, hc, n, hd⟩ := hT
    exact .cons (as := []) (.tuple ho hc hd (.cons (.int _ _) (.cons (.int _ _) .nil))) rest
def rMinP : List V → Hp → VK → Prop := fun vs H Q => ∃ (a : Addr) (us : List V) (ps : List (Int × Int)), vs = [V.ref a] ∧ H a = some (.lst us) ∧ Prs H us ps ∧ ps ≠ [] ∧ ∀ p T, p ∈ ps → (∀ q ∈ ps, lexLe p q) → H T = some (.tup [.int p.1, .int p.2]) → Q (.ref T) H
theorem cr_minP {X : Cx} (hc : X.calm = true) (hu : X.A.units + 64 < cLine) : CallR X (.builtin "min") rMinP := fun pins s σ H vs us Q I r h => by
  obtain ⟨a, ws, ps, rfl, ha, hp, hne, q⟩ := h
  obtain ⟨its, rv, hl, hz⟩ := I.list (SqL.of ha)
  rw [Vals.ref1 r]
  cases ps with
  | nil => exact absurd rfl hne
  | cons p ps =>
    have hr := reads_prs I hp rv
    refine PySem.W.min_list_data (x := pairD p) (xs := ps.map pairD) (I.ok.hd hc) hl.isList (by simpa using hr) ?_ ?_ fun i v h' tk bs hv hR hk => ?_
    · have e : pairD p :: List.map pairD ps = (p :: ps).map pairD := rfl
      rw [e]
      refine ⟨fun x hx y hy => ?_, fun x hx => ?_⟩
      · obtain ⟨x', _, rfl⟩ := List.mem_map.mp hx
        obtain ⟨y', _, rfl⟩ := List.mem_map.mp hy
        simp [pairD, PySem.W.alike, PySem.W.alikeAll]
      · obtain ⟨x', _, rfl⟩ := List.mem_map.mp hx
        exact fun z => nomatch z
    · have := depth_prs (p :: ps)
      rw [List.map_cons] at this
      omega
    · obtain ⟨m, m1, m2, m3⟩ := min_pairs ps p
      rw [m3] at hR
      have hv' : its[i]? = some v := by simpa using hv
      have hi : i < ws.length := by rw [rv.length]; exact (List.getElem?_eq_some_iff.mp hv').1
      obtain ⟨g, T, eg, ew, eT⟩ := prs_at hp (List.getElem?_eq_getElem hi)
      obtain ⟨u, hu', ru⟩ := rv.get (List.getElem?_eq_getElem hi)
      rw [hv'] at hu'
      cases hu'
      rw [ew] at ru
      cases ru
      obtain ⟨ta, tb, o, ho, hcl, n, hd⟩ := pair_in I eT
      have gm : g = m := by
        cases hR with
        | tuple ho' hc' hd' rr =>
          rw [hk _ _ ho] at ho'
          cases ho'
          rw [hd] at hd'
          cases hd'
          cases rr with
          | cons r1 rr =>
            cases rr with
            | cons r2 rr =>
              exact Prod.ext (Reads.int_inj r1 ⟨_, rfl⟩) (Reads.int_inj r2 ⟨_, rfl⟩)
      rw [gm] at eT
      exact ⟨.ref T, H, I.kept hk, rfl, q m T m1 m2 eT⟩

/-! ### enumerate(list, start=k) -/
def IteF (K : PySem.W.Frag) (k0 : Int) (a : Addr) : It :=
  ⟨fun i H => ∃ (xs : List V) (x : V), SqL K H a xs ∧ xs[i]? = some x, fun i H v H' => ∃ T x, v = .ref T ∧ H T = none ∧ H' = upd H T (.tup [.int (k0 + (i : Nat)), x]) ∧ ∀ xs, SqL K H a xs → xs[i]? = some x, fun i H => ∃ xs : List V, SqL K H a xs ∧ xs.length = i⟩
theorem turn_enumF {P : Program} {w : World} {K : PySem.W.Frag} {elts : List Expr} {kk : Nat} {tpos : Pos} (k0 : Int) (a e it : Addr) (nea : e ≠ a) (nia : a ≠ it) :
    Turn P w K (.Tuple elts kk tpos) (IteF K k0 a) [e, it] e (fun i h => (∃ old, IsEnum h e it (k0 + ((i : Nat) : Int)) old) ∧ h.IsListIter it a i ∧ e ≠ it) where
  mem := by simp
  obj := fun i h st b hb => by
    obtain ⟨⟨old, he⟩, ⟨o, ho, hc, hd⟩, _⟩ := st
    have e' : b = e ∨ b = it := by simpa using hb
    rcases e' with z | z
    · rw [z]; exact ⟨_, he, fun v q => nomatch q⟩
    · rw [z]; exact ⟨o, ho, fun v q => by rw [hd] at q; cases q⟩
  keep := fun i h h' st k => let ⟨⟨old, he⟩, hi, hne⟩ := st; ⟨⟨old, k e (by simp) _ he⟩, hi.at fun o q => k it (by simp) o q, hne⟩
  item := by
    intro X hP hw hK hc i pins s σ H E I hf st hg
    subst hP hw hK
    obtain ⟨⟨old, he⟩, hit, hne⟩ := st
    obtain ⟨xs, x, hq, hx⟩ := hg
    obtain ⟨its, rv, p, hz⟩ := I.list hq
    obtain ⟨u, hu, ru⟩ := rv.get hx
    have hel : e < s.heap.objs.size := Heap.lt_size he
    have hil : it < s.heap.objs.size := by obtain ⟨_, q, _⟩ := hit; exact Heap.lt_size q
    have hlt : i < its.toArray.size := by simpa using (List.getElem?_eq_some_iff.mp hu).1
    refine wpAny_pyNext_enum_itemC (Draws.list (show X.A.in1.handled = none from I.ok.hd hc) it a nia its.toArray) he ⟨hit, p.isList⟩ hlt hne (by simp [hne, nea]) fun x' h' tk hP' ho hit' hT hsz hk => ?_
    have eu : x' = u := by
      have h1 : its[i]? = some x' := by simpa using hP'
      rw [hu] at h1
      exact (Option.some.inj h1).symm
    subst eu
    refine ⟨_, rfl, wpAny_letOwnedTupleGo_enum (s := { s with heap := h', toks := tk + 1 }) ho fun h'' he' sb => ?_⟩
    have hT2 : h''.get? s.heap.objs.size = some { cls := .type "tuple", data := .seq #[.int (k0 + (i : Int)) tk, x'] } := (sb.2 _ (Nat.ne_of_gt hel)).trans hT
    have new : ObjOk X.prog X.w (upd H s.heap.objs.size (.tup [.int (k0 + (i : Nat)), x])) h'' s.heap.objs.size (.tup [.int (k0 + (i : Nat)), x]) :=
      ⟨by show 2 ≤ sizeLine; decide, [.int (k0 + (i : Int)) tk, x'], .cons ⟨_, rfl⟩ (.cons ru .nil), ⟨_, hT2, rfl, _, rfl⟩⟩
    have I1 : Inv X pins σ (upd H s.heap.objs.size (.tup [.int (k0 + (i : Nat)), x])) { s with heap := h'', toks := tk + 1 } :=
      I.turnedNew (ch := [e, it]) (fun b ob hb q => (sb.2 b (fun z => hb (by simp [z]))).trans (hk b ob (fun z => hb (by simp [z])) (fun z => hb (by simp [z])) q)) hf (Nat.le_refl _) new
    refine ⟨.ref s.heap.objs.size, _, I1, rfl, ⟨_, x, rfl, I.hok.fresh (Nat.le_refl _), rfl, fun ys hy => by rw [I.list_inj hy hq]; exact hx⟩, ⟨⟨x', ?_⟩, hit'.1.at fun o q => (sb.2 it (Ne.symm hne)).trans q, hne⟩, fun b hb => ?_⟩
    · have e1 : k0 + ((i + 1 : Nat) : Int) = k0 + (i : Int) + 1 := by omega
      rw [e1]; exact he'
    · have hb' : b < s.heap.objs.size := by
        have e' : b = e ∨ b = it := by simpa using hb
        rcases e' with z | z
        · rw [z]; exact hel
        · rw [z]; exact hil
      rw [upd_ne (Nat.ne_of_lt hb')]
      exact (hf b hb).1
  done := by
    intro X hP hw hK hc i pins s σ H E I hf st hg
    subst hP hw hK
    obtain ⟨⟨old, he⟩, hit, hne⟩ := st
    obtain ⟨xs, hq, hx⟩ := hg
    obtain ⟨its, rv, p, hz⟩ := I.list hq
    obtain ⟨f0, f1, f2, f3, f4, f5⟩ := hf it (by simp)
    have hl := rv.length
    have hn : its.toArray.size = i := by simp; omega
    refine wpAny_pyNext_enum_endD (Draws.list (show X.A.in1.handled = none from I.ok.hd hc) it a nia its.toArray) he ⟨by rw [hn]; exact hit, p.isList⟩ fun h' eb => ⟨rfl, I.turned (t' := s.toks) (fun b o hb q => eb b o hb q) f0 f1 f3 f4 f5⟩
  self := fun A i s Q E st h => let ⟨⟨_, he⟩, _⟩ := st; wpAny_pyIter_enum he h
theorem callWith_typeK {M : Model} {A : Around} {E : Value → Shared → Prop} {s : Shared} {env : Env} {pos : Pos} {T : String} {e : Expr} {kws : List Keyword} {Q : Value → Shared → Prop}
    (h : wpAny M A (spliced (backTo pos (starEach [e] env))) (fun vs s₁ => wpAny M A (evalAll ((backToKw pos (keywordEach kws env)).map (·.2)))
      (fun kvs s₂ => wpAny M A (call (.type T) vs (((backToKw pos (keywordEach kws env)).filterMap (·.1)).zip kvs)) Q E s₂) E s₁) E s)
    (he : ∃ t, backTo pos (starEach [e] env) = [(false, t)])
    (hall : (backToKw pos (keywordEach kws env)).all (·.1.isSome) = true)
    (hkw : (backToKw pos (keywordEach kws env)).any (·.1.isNone) = false) :
    wpAny M A (callWith pos (.type T) [] (backTo pos (starEach [e] env)) (backToKw pos (keywordEach kws env))) Q E s := by
  obtain ⟨t, he⟩ := he
  rw [he] at h ⊢
  unfold callWith
  refine wpAny_bind (wpAny_holding (wpAny_mono (evalArgs_kwB (Q := fun a s₁ => wpAny M A (call (.type T) ([] ++ a.pos) a.kw) Q E s₁) hall h) (fun a s₁ h₁ => wpAny_bind (wpAny_standAt ?_)) fun _ _ x => x))
  simp only [hkw, List.any_cons, List.any_nil, Bool.or_false]
  refine wpAny_bind (wpAny_pure ?_)
  exact wpAny_bind (wpAny_mono h₁ (fun r s₂ hr => wpAny_bind (wpAny_holding (wpAny_point (wpAny_pure hr)))) fun _ _ x => x)
def iEnumF (K : PySem.W.Frag) (ta tk : TA) : TI := fun σ H R => ta σ H fun vs H1 => tk σ H1 fun zs H2 => ∃ a xs k0, vs = [.ref a] ∧ zs = [.int k0] ∧ SqL K H2 a xs ∧ -(2 ^ 63) ≤ k0 ∧ k0 < 2 ^ 63 ∧ R (IteF K k0 a) H2
theorem pi_enumF {X : Cx} {e : Expr} {kws : List Keyword} {ta tk : TA} {p pos tpos : Pos} {elts : List Expr} {kk : Nat} (hg : Gl X "enumerate") (hm : X.mg "enumerate" = none) (ha : PA X [e] ta) (hk : PK X kws tk)
    (he : ∃ t, backTo pos (starEach [e] X.env) = [(false, t)])
    (hall : (backToKw pos (keywordEach kws X.env)).all (·.1.isSome) = true) (hnone : (backToKw pos (keywordEach kws X.env)).any (·.1.isNone) = false) (hks : (backToKw pos (keywordEach kws X.env)).filterMap (·.1) = [Str.ofString "start"]) :
    PI X (.Tuple elts kk tpos) (.Call (.Name "enumerate" p) [e] kws pos) (iEnumF X.K ta tk) := by
  refine ⟨fun pins s σ H R I h => ?_⟩
  refine wpAny_Call_Name_kw (ld_blt I hg hm boot_enumerate (callWith_typeK (thn (ha.run pos pins s σ H _ I h) fun us s1 ⟨vs, H1, I1, r1, q1⟩ => thn (hk.run pos pins s1 σ H1 _ I1 q1) fun ws s2 ⟨zs, H2, I2, r2, q2⟩ => ?_) he hall hnone))
  obtain ⟨a, xs, k0, rfl, rfl, hq, k1, k2, q⟩ := q2
  rw [hks, Vals.ref1 r1]
  cases r2 with
  | cons r rr =>
    cases rr
    obtain ⟨tk0, rfl⟩ := r
    obtain ⟨its, rv, p', hz⟩ := I2.list hq
    have hal : a < s2.heap.objs.size := by obtain ⟨_, q, _⟩ := p'.isList; exact Heap.lt_size q
    refine enum_begins_start (begins_list a its.toArray) p'.isList k1 k2 fun h' hE hit hsz hkp => wpAny_pyIter_enum hE ?_
    have I3 : Inv X pins σ H2 { s2 with heap := h' } := I2.kept (t' := s2.toks) hkp
    refine ⟨s2.heap.objs.size + 1, [s2.heap.objs.size + 1, s2.heap.objs.size], _, _, H2, rfl, I3, turn_enumF k0 a (s2.heap.objs.size + 1) s2.heap.objs.size (Nat.ne_of_gt (Nat.lt_succ_of_lt hal)) (Nat.ne_of_lt hal), ⟨⟨.none, by rw [Int.natCast_zero, Int.add_zero]; exact hE⟩, ⟨_, hit, rfl, rfl⟩, Nat.succ_ne_self _⟩, fun b hb => ?_, q⟩
    have e' : b = s2.heap.objs.size + 1 ∨ b = s2.heap.objs.size := by simpa using hb
    have hle : s2.heap.objs.size ≤ b := by
      rcases e' with z | z
      · rw [z]; exact Nat.le_add_right _ _
      · rw [z]; exact Nat.le_refl _
    exact I2.fpOk hle (I2.hok.fresh hle)
theorem walk_enumF {K : PySem.W.Frag} {k0 : Int} {a : Addr} {xs : List V} : Walk (IteF K k0 a) xs.length (fun H => SqL K H a xs) (YPair (fun i => some (.int (k0 + (i : Nat)))) (fun i => xs[i]?)) := by
  refine ⟨fun i _ hi q => ⟨xs, xs[i], q, by simp [hi]⟩, fun _ q => ⟨xs, q, rfl⟩, fun i H v H' _ q y => ?_⟩
  obtain ⟨T, x, h1, h2, h3, h4⟩ := y
  exact ⟨T, .int (k0 + (i : Nat)), x, h1, h2, h3, rfl, h4 xs q⟩

/-! ### the draws of runs -/
theorem eqv_none {α : Type} (f : α → PyData) (ps : List α) : PyData.eqv (PyData.list (ps.map f)) (PyData.list []) = ps.isEmpty := by
  cases ps with
  | nil => simp [PyData.eqv, PyData.eqvAll]
  | cons p r => simp [PyData.eqv, PyData.eqvAll]
/-- xs != [], of pairs -/
theorem ne_nilP {K : PySem.W.Frag} {H : Hp} {p l : Addr} {ps : List (Int × Int)} {Q : VK} (h : LsA H p ps) (el : H l = some (.lst [])) (q : Q (.bl (!ps.isEmpty)) H) : rNeD K (.ref p) (.ref l) H Q :=
  ⟨_, .list [], h.dp, .lst (SqL.of el) .nil, shaped_prs ps, by rfl, by rw [eqv_none]; exact q⟩
theorem LsA.kp {H H' : Hp} {d c a : Addr} {t : Int} {ps : List (Int × Int)} (h : LsA H a ps) (S : StAt H d c t) (k : Kp d c H H') (n : a ≠ d ∧ a ≠ c) : LsA H' a ps := let ⟨us, e, p⟩ := h; ⟨us, k _ _ n.1 n.2 e, p.kp S k⟩
theorem pick_at {xs : List V} {n : Nat} (hn : xs.length = n) {r : Int} (r0 : 0 ≤ r) (r1 : r < n) : ∃ v, atI xs r = some v ∧ v ∈ xs := by
  obtain ⟨k, rfl⟩ := Int.eq_ofNat_of_zero_le r0
  have lt : k < xs.length := by omega
  exact ⟨_, atI_nat (List.getElem?_eq_getElem lt), List.getElem_mem lt⟩
def RunOk (most : Int) (rs : List (Int × Int)) : Prop := ∀ r ∈ rs, 0 ≤ r.1 ∧ r.1 ≤ r.2 ∧ r.2 ≤ most
def spRuns : Sp := fun vs H Q _ => ∃ (d c : Addr) (t many most wide : Int), vs = [.ref d, .int many, .int most, .int wide] ∧ StAt H d c t ∧ t < 2 ^ 58 ∧ 0 ≤ many ∧ many ≤ 900 ∧ 0 ≤ most ∧ most ≤ 2 ^ 60 ∧ 1 ≤ wide ∧ wide ≤ 2 ^ 60 ∧
  ∀ l rs H' t', H l = none → LsA H' l rs → RunOk most rs → (rs.length : Int) = many → t ≤ t' → t' ≤ t + 10 * many → StAt H' d c t' → Kp d c H H' → Q (.ref l) H'
abbrev sRuns : Stmt := topS 9
theorem scRuns : FnScope ["_law_state", "_law_many", "_law_most", "_law_wide", "_law_runs_here", "_law_turn", "_law_kind", "_law_first", "_law_last"] ["_law_state", "_law_many", "_law_most", "_law_wide"] (defScope sRuns) := ⟨rfl, rfl, rfl, by decide +kernel, rfl, by decide +kernel, by decide +kernel⟩
section
variable {K : PySem.W.Frag} {mg : Str → Option Value} {P : Program} {w : World} {base : Heap}
theorem ok_Runs {f : Addr} {fd : FuncData} (F : Fun K "_law_runs" "_law_runs" sRuns f fd) (C__law_take : Cal P w K mg base 1 "_law_take" ["_law_state", "_law_many"] spTake) (m_range : mg "range" = none) (m_min : mg "min" = none) (m_len : mg "len" = none) : FnOk P w K mg base CX0 2 f fd ["_law_state", "_law_many", "_law_most", "_law_wide"] spRuns := by
  refine F.ok scRuns (fun vs H Q E h => ?_) (fun cdv A outer s H vs Q E hr h => ?_)
  · obtain ⟨d, c, t, many, most, wide, rfl, _⟩ := h
    rfl
  · obtain ⟨d, c, t, many, most, wide, rfl, hS, ht, m0, m1, mo0, mo1, w0, w1, q⟩ := h
    refine ⟨_, pss_cons (ps_set (i := 4) scRuns.nd rfl (.inl rfl) (pe_lst pa_nil))
      (pss_cons (ps_for PassesOwn.never rfl (pi_range1 rfl m_range (pa_cons (pv 1) pa_nil)) (pg_name (i := 5) scRuns.nd rfl (.inl rfl))
        (pss_cons (ps_set (i := 6) scRuns.nd rfl (.inl rfl) (pe_own C__law_take hr (by rfl) (pa_cons (pv 0) (pa_cons pe_int pa_nil))))
        (pss_cons (ps_set (i := 7) scRuns.nd rfl (.inl rfl) (pe_own C__law_take hr (by rfl) (pa_cons (pv 0) (pa_cons (pe_op op_add (pv 2) pe_int) pa_nil))))
        (pss_cons (ps_set (i := 8) scRuns.nd rfl (.inl rfl) (pe_callB (call_min2 rfl) (by rfl) m_min (by decide +kernel) (pa_cons (pv 2) (pa_cons (pe_op op_add (pv 7) (pe_own C__law_take hr (by rfl) (pa_cons (pv 0) (pa_cons (pv 3) pa_nil)))) pa_nil))))
        (Evl.pss_cut (ps_if (PW.pt (pw_and (pt_cmpR op_eq (pv 6) pe_int (nomark _)) (pw_and1 (pt_cmpR (op_neD hr.units) (pv 4) (pe_lst pa_nil) (nomark _))))) (pss_one (ps_asg (pe_ix ix_list (pv 4) (pe_own C__law_take hr (by rfl) (pa_cons (pv 0) (pa_cons (pe_callB call_len_seq (by rfl) m_len PySem.boot_len (pa_cons (pv 4) pa_nil)) pa_nil))) (fun _ _ => rfl)) (pg_tup rfl (pgs_cons (pg_name (i := 7) scRuns.nd rfl (.inl rfl)) (pgs_cons (pg_name (i := 8) scRuns.nd rfl (.inl rfl)) pgs_nil)))))
          pss_nil)
        (Evl.pss_cut (ps_if (PW.pt (pw_and (pt_cmpR op_eq (pv 6) pe_int (nomark _)) (pw_and1 (pt_cmpR (op_neD hr.units) (pv 4) (pe_lst pa_nil) (nomark _))))) (pss_cons (ps_set (i := 7) scRuns.nd rfl (.inl rfl) (pe_callB (call_min2 rfl) (by rfl) m_min (by decide +kernel) (pa_cons (pv 2) (pa_cons (pe_op op_add (pe_ix ix_tup (pe_ix ix_list (pv 4) (pe_un un_neg pe_int) (fun _ _ => rfl)) pe_int (fun _ _ => rfl)) (pe_own C__law_take hr (by rfl) (pa_cons (pv 0) (pa_cons pe_int pa_nil)))) pa_nil))))
          (pss_one (ps_set (i := 8) scRuns.nd rfl (.inl rfl) (pe_callB (call_min2 rfl) (by rfl) m_min (by decide +kernel) (pa_cons (pv 2) (pa_cons (pe_op op_add (pv 7) (pe_own C__law_take hr (by rfl) (pa_cons (pv 0) (pa_cons (pv 3) pa_nil)))) pa_nil))))))
          pss_nil)
        (pss_one (ps_expr (pe_bm PySem.F.plainAttrs_list PySem.F.slot_list_append PySem.F.type_list_append mt_append (pv 4) (pa_cons (pe_tup (pa_cons (pv 7) (pa_cons (pv 8) pa_nil))) pa_nil))))))))))
      (pss_one (ps_ret (pv 4)))), ?_⟩
    refine ⟨Nat.zero_le _, fun p np => ?_⟩
    have sp := same_upd (o := .lst []) np
    have offp := hS.off np
    refine ⟨_, rfl, many, rfl, by omega, by omega, for_range (n := many.toNat) (fun i σ Hx => ∃ (rs : List (Int × Int)) (t' : Int) (y5 y6 y7 y8 : Option V), σ = [some (.ref d), some (.int many), some (.int most), some (.int wide), some (.ref p), y5, y6, y7, y8] ∧ LsA Hx p rs ∧ RunOk most rs ∧ rs.length = i ∧ t ≤ t' ∧ t' ≤ t + 10 * (i : Int) ∧ StAt Hx d c t' ∧ Kp d c H Hx) ⟨[], t, _, _, _, _, rfl, LsA.nil upd_same, (fun _ h => nomatch h), rfl, by omega, by omega, hS.same sp, Kp.same d c sp⟩ (fun i σ Hx hi hP => ?_) (fun σ Hx hP => ?_)⟩
    · obtain ⟨rs, t', y5, y6, y7, y8, rfl, hL, hro, hl, u0, u1, hS2, k2⟩ := hP
      refine ⟨_, rfl, d, c, t', 5, rfl, hS2, by omega, by decide, by decide, fun kd H3 kd0 kd1 hS3 k3 => ?_⟩
      refine ⟨_, rfl, _, rfl, _, _, rfl, rfl, d, c, t' + 1, most + 1, rfl, hS3, by omega, by omega, by omega, fun fi H4 fi0 fi1 hS4 k4 => ?_⟩
      refine ⟨_, rfl, _, rfl, _, rfl, _, rfl, d, c, t' + 1 + 1, wide, rfl, hS4, by omega, by omega, by omega, fun wi H5 wi0 wi1 hS5 k5 => ⟨_, _, rfl, rfl, _, _, rfl, ?_⟩⟩
      have hL5 := ((hL.kp hS2 k3 offp).kp hS3 k4 offp).kp hS4 k5 offp
      have k25 := (k3.trans k4).trans k5
      have mn : ∀ a b : Int, a ≤ most → 0 ≤ b → a ≤ (if a + b < most then a + b else most) ∧ (if a + b < most then a + b else most) ≤ most := fun a b h1 h2 => by split <;> omega
      refine ⟨fun σ' H' => ∃ (f l t3 : Int), σ' = [some (.ref d), some (.int many), some (.int most), some (.int wide), some (.ref p), some (.int (0 + (i : Int))), some (.int kd), some (.int f), some (.int l)] ∧ 0 ≤ f ∧ f ≤ l ∧ l ≤ most ∧ LsA H' p rs ∧ t' ≤ t3 ∧ t3 ≤ t' + 4 ∧ StAt H' d c t3 ∧ Kp d c H H', ?_, ?_⟩
      · have skip : ∀ H', Same H5 H' → ∃ (f l t3 : Int), [some (V.ref d), some (.int many), some (.int most), some (.int wide), some (.ref p), some (.int (0 + (i : Int))), some (.int kd), some (.int fi), some (.int (if fi + wi < most then fi + wi else most))] = [some (.ref d), some (.int many), some (.int most), some (.int wide), some (.ref p), some (.int (0 + (i : Int))), some (.int kd), some (.int f), some (.int l)] ∧ 0 ≤ f ∧ f ≤ l ∧ l ≤ most ∧ LsA H' p rs ∧ t' ≤ t3 ∧ t3 ≤ t' + 4 ∧ StAt H' d c t3 ∧ Kp d c H H' := fun H' s' => ⟨fi, _, t' + 1 + 1 + 1, rfl, fi0, (mn fi wi (by omega) wi0).1, (mn fi wi (by omega) wi0).2, hL5.same s', by omega, by omega, hS5.same s', (k2.trans k25).trans (Kp.same d c s')⟩
        refine ⟨_, rfl, rfl, _, rfl, ite2 (fun c1 => ?_) (fun c1 => ite2 (fun z => nomatch z) (fun _ => skip H5 (Same.refl _)))⟩
        refine ⟨_, rfl, Nat.zero_le _, fun n nn => ?_⟩
        have sn := same_upd (o := .lst []) nn
        refine ne_nilP (hL5.same sn) upd_same ⟨_, rfl, ite2 (fun c2 => ?_) (fun c2 => skip _ sn)⟩
        have pos : 0 < rs.length := by
          cases rs with
          | nil => cases c2
          | cons => simp
        have hL6 := hL5.same sn
        have hS6 := hS5.same sn
        obtain ⟨us, ep, hpr⟩ := id hL6
        have lu := hpr.1
        refine ⟨_, rfl, _, rfl, _, rfl, p, _, rfl, .inl (SqL.of ep), d, c, t' + 1 + 1 + 1, (rs.length : Int), by rw [lu]; rfl, hS6, by omega, by omega, by omega, fun r H6 r0 r1 hS7 k7 => ?_⟩
        obtain ⟨v, ev, hv⟩ := pick_at (xs := us) (n := rs.length) lu r0 r1
        obtain ⟨j, hj⟩ := List.getElem?_of_mem hv
        obtain ⟨g, T, eg, rfl, eT⟩ := prs_at hpr hj
        have eT6 := (hpr.kp hS6 k7)
        obtain ⟨g', T', eg', z', eT'⟩ := prs_at eT6 hj
        cases z'
        rw [eg] at eg'
        cases eg'
        obtain ⟨g0, g1, g2⟩ := hro g (List.mem_of_getElem? eg)
        refine ⟨p, _, r, _, rfl, rfl, SqL.of (k7 _ _ offp.1 offp.2 ep), ev, T, _, rfl, .inl (.inl eT'), rfl, _, _, rfl, _, _, rfl, rfl, ?_⟩
        exact ⟨g.1, g.2, t' + 1 + 1 + 1 + 1, rfl, g0, g1, g2, hL6.kp hS6 k7 offp, by omega, by omega, hS7, ((k2.trans k25).trans (Kp.same d c sn)).trans k7⟩
      rintro σ6 H6 ⟨f1, l1, t6, rfl, f10, f11, f12, hL6, v0, v1, hS6, k6⟩
      refine ⟨fun σ' H' => ∃ (f l t3 : Int), σ' = [some (.ref d), some (.int many), some (.int most), some (.int wide), some (.ref p), some (.int (0 + (i : Int))), some (.int kd), some (.int f), some (.int l)] ∧ 0 ≤ f ∧ f ≤ l ∧ l ≤ most ∧ LsA H' p rs ∧ t' ≤ t3 ∧ t3 ≤ t' + 8 ∧ StAt H' d c t3 ∧ Kp d c H H', ?_, ?_⟩
      · have skip : ∀ H', Same H6 H' → ∃ (f l t3 : Int), [some (V.ref d), some (.int many), some (.int most), some (.int wide), some (.ref p), some (.int (0 + (i : Int))), some (.int kd), some (.int f1), some (.int l1)] = [some (.ref d), some (.int many), some (.int most), some (.int wide), some (.ref p), some (.int (0 + (i : Int))), some (.int kd), some (.int f), some (.int l)] ∧ 0 ≤ f ∧ f ≤ l ∧ l ≤ most ∧ LsA H' p rs ∧ t' ≤ t3 ∧ t3 ≤ t' + 8 ∧ StAt H' d c t3 ∧ Kp d c H H' := fun H' s' => ⟨f1, l1, t6, rfl, f10, f11, f12, hL6.same s', by omega, by omega, hS6.same s', k6.trans (Kp.same d c s')⟩
        refine ⟨_, rfl, rfl, _, rfl, ite2 (fun c1 => ?_) (fun c1 => ite2 (fun z => nomatch z) (fun _ => skip H6 (Same.refl _)))⟩
        refine ⟨_, rfl, Nat.zero_le _, fun n nn => ?_⟩
        have sn := same_upd (o := .lst []) nn
        refine ne_nilP (hL6.same sn) upd_same ⟨_, rfl, ite2 (fun c2 => ?_) (fun c2 => skip _ sn)⟩
        have hne : rs ≠ [] := fun z => by rw [z] at c2; cases c2
        have hL7 := hL6.same sn
        have hS7 := hS6.same sn
        obtain ⟨us, ep, hpr⟩ := id hL7
        obtain ⟨rs', g, rfl⟩ : ∃ rs' g, rs = rs' ++ [g] := ⟨_, _, (List.dropLast_concat_getLast hne).symm⟩
        obtain ⟨us', T, rfl, eT, _⟩ := hpr.last
        obtain ⟨g0, g1, g2⟩ := hro g (List.mem_append_right _ (List.mem_singleton.mpr rfl))
        have em : atI (us' ++ [V.ref T]) (-1) = some (.ref T) := atI_last _ _
        refine ⟨_, rfl, _, rfl, 1, rfl, p, _, -1, _, rfl, rfl, SqL.of ep, em, ?_⟩
        refine ⟨T, _, 1, _, rfl, rfl, .inl (.inl eT), atI_nat (j := 1) rfl, ?_⟩
        refine ⟨_, rfl, d, c, t6, 2, rfl, hS7, by omega, by decide, by decide, fun r2 H8 r20 r21 hS8 k8 => ⟨_, _, rfl, rfl, _, _, rfl, ?_⟩⟩
        refine ⟨_, rfl, _, rfl, _, rfl, _, rfl, d, c, t6 + 1, wide, rfl, hS8, by omega, by omega, by omega, fun r3 H9 r30 r31 hS9 k9 => ⟨_, _, rfl, rfl, _, _, rfl, ?_⟩⟩
        have mm : ∀ x : Int, 0 ≤ x → 0 ≤ (if x < most then x else most) ∧ (if x < most then x else most) ≤ most := fun x h => by split <;> omega
        have m2 := mm (g.2 + r2) (by omega)
        exact ⟨_, _, t6 + 1 + 1, rfl, m2.1, (mn _ r3 m2.2 r30).1, (mn _ r3 m2.2 r30).2, (hL7.kp hS7 k8 offp).kp hS8 k9 offp, by omega, by omega, hS9, ((k6.trans (Kp.same d c sn)).trans k8).trans k9⟩
      rintro σ7 H7 ⟨f2, l2, t7, rfl, f20, f21, f22, hL7, v20, v21, hS7, k7⟩
      obtain ⟨us, ep, hpr⟩ := hL7
      refine ⟨_, rfl, .inl ⟨rfl, _, SqL.of ep⟩, _, rfl, _, rfl, (by show 2 ≤ sizeLine; decide), fun T nT => ?_⟩
      have sT := same_upd (o := .tup [.int f2, .int l2]) nT
      have lu := hpr.1
      refine ⟨p, _, _, rfl, rfl, sT _ _ ep, small1000 (by omega), ?_⟩
      refine ⟨rs ++ [(f2, l2)], t7, _, _, _, _, rfl, ⟨_, upd_same, ((hpr.same sT).snoc upd_same).upd_lst (sT _ _ ep)⟩, fun r hr' => ?_, by rw [List.length_append]; show rs.length + 1 = _; omega, by omega, by omega, (hS7.same sT).upd offp.1 offp.2, fun b o b1 b2 e => ?_⟩
      · rcases List.mem_append.mp hr' with z | z
        · exact hro r z
        · rw [List.mem_singleton.mp z]; exact ⟨f20, f21, f22⟩
      · rw [upd_ne (ne_of_none e np)]
        exact sT _ _ (k7 b o b1 b2 e)
    · obtain ⟨rs, t', y5, y6, y7, y8, rfl, hL, hro, hl, u0, u1, hS2, k2⟩ := hP
      exact ⟨_, rfl, q p rs Hx t' np hL hro (by omega) u0 (by omega) hS2 k2⟩
end

/-! ### the cheapest places -/
/-- how far back the place ahead of s may lie -/
structure BackAt (rs : List (Int × Int)) (s b : Int) : Prop where
  lo : 0 ≤ b
  all : ∀ r ∈ rs, r.2 + 2 ≤ s → r.1 + 1 ≤ b
  one : b = 0 ∨ ∃ r ∈ rs, r.2 + 2 ≤ s ∧ b = r.1 + 1
theorem BackAt.lt {rs : List (Int × Int)} {s b : Int} (h : BackAt rs s b) (hr : ∀ r ∈ rs, r.1 ≤ r.2) (hs : 1 ≤ s) : b < s := by
  rcases h.one with z | ⟨r, h1, h2, h3⟩
  · omega
  · have := hr r h1
    omega
/-- places from the last to the first, each no further back than may be -/
def Way (rs : List (Int × Int)) : Int → List Int → Prop
  | s, [] => BackAt rs s 0
  | s, x :: l => x + 1 < s ∧ 0 ≤ x ∧ (∃ b, BackAt rs s b ∧ b ≤ x + 1) ∧ Way rs (x + 1) l
theorem BackAt.eq {rs : List (Int × Int)} {s b b' : Int} (h : BackAt rs s b) (h' : BackAt rs s b') : b = b' := by
  have a1 : b ≤ b' := by
    rcases h.one with z | ⟨r, h1, h2, h3⟩
    · have := h'.lo; omega
    · have := h'.all r h1 h2; omega
  have a2 : b' ≤ b := by
    rcases h'.one with z | ⟨r, h1, h2, h3⟩
    · have := h.lo; omega
    · have := h.all r h1 h2; omega
  omega
/-- each run that ends ahead of s has one of l -/
def HitB (rs : List (Int × Int)) (s : Int) (l : List Int) : Prop := ∀ r ∈ rs, r.2 + 2 ≤ s → ∃ x ∈ l, r.1 ≤ x ∧ x ≤ r.2
theorem Way.hit {rs : List (Int × Int)} : ∀ {l : List Int} {s : Int}, (∀ r ∈ rs, 0 ≤ r.1) → Way rs s l → HitB rs s l
  | [], s, h0, h => fun r hr e => by
    have := h.all r hr e
    have := h0 r hr
    omega
  | x :: l, s, h0, h => fun r hr e => by
    obtain ⟨h1, h2, ⟨b, hb, hx⟩, h4⟩ := h
    by_cases c : r.2 + 2 ≤ x + 1
    · obtain ⟨y, hy, e1⟩ := Way.hit h0 h4 r hr c
      exact ⟨y, List.mem_cons_of_mem _ hy, e1⟩
    · have := hb.all r hr e
      exact ⟨x, List.mem_cons_self .., by omega, by omega⟩
theorem back_ex (rs : List (Int × Int)) (h0 : ∀ r ∈ rs, 0 ≤ r.1) (s : Int) : ∃ b, BackAt rs s b := by
  induction rs with
  | nil => exact ⟨0, Int.le_refl _, (fun _ h => nomatch h), .inl rfl⟩
  | cons r rs ih =>
    obtain ⟨b, hb⟩ := ih fun x hx => h0 x (List.mem_cons_of_mem _ hx)
    have hr0 := h0 r (List.mem_cons_self ..)
    by_cases c : r.2 + 2 ≤ s ∧ b < r.1 + 1
    · refine ⟨r.1 + 1, by omega, fun x hx e => ?_, .inr ⟨r, List.mem_cons_self .., c.1, rfl⟩⟩
      rcases List.mem_cons.mp hx with z | z
      · rw [z]; omega
      · have := hb.all x z e; omega
    · refine ⟨b, hb.lo, fun x hx e => ?_, ?_⟩
      · rcases List.mem_cons.mp hx with z | z
        · rw [z] at e ⊢; omega
        · exact hb.all x z e
      · rcases hb.one with z | ⟨x, h1, h2, h3⟩
        · exact .inl z
        · exact .inr ⟨x, List.mem_cons_of_mem _ h1, h2, h3⟩
/-- falling, all within -/
def Fall : Int → List Int → Prop
  | _, [] => True
  | s, x :: l => x + 1 < s ∧ 0 ≤ x ∧ Fall (x + 1) l
theorem Fall.lt : ∀ {l : List Int} {s : Int}, Fall s l → ∀ x ∈ l, x + 1 < s
  | y :: l, s, h, x, hx => by
    rcases List.mem_cons.mp hx with z | z
    · rw [z]; exact h.1
    · have := Fall.lt h.2.2 x z
      have := h.1
      omega
theorem Way.fall {rs : List (Int × Int)} : ∀ {l : List Int} {s : Int}, Way rs s l → Fall s l
  | [], _, _ => trivial
  | _ :: _, _, h => ⟨h.1, h.2.1, Way.fall h.2.2.2⟩
theorem Way.of {rs : List (Int × Int)} (h0 : ∀ r ∈ rs, 0 ≤ r.1) : ∀ {l : List Int} {s : Int}, Fall s l → HitB rs s l → Way rs s l
  | [], s, _, h => ⟨Int.le_refl _, fun r hr e => (let ⟨_, hx, _⟩ := h r hr e; nomatch hx), .inl rfl⟩
  | x :: l, s, f, h => by
    obtain ⟨b, hb⟩ := back_ex rs h0 s
    refine ⟨f.1, f.2.1, ⟨b, hb, ?_⟩, Way.of h0 f.2.2 fun r hr e => ?_⟩
    · rcases hb.one with z | ⟨r, h1, h2, h3⟩
      · have := f.2.1; omega
      · obtain ⟨y, hy, e1, e2⟩ := h r h1 h2
        rcases List.mem_cons.mp hy with z | z
        · rw [z] at e1; omega
        · have := Fall.lt f.2.2 y z; omega
    · obtain ⟨y, hy, e1, e2⟩ := h r hr (by have := f.1; omega)
      rcases List.mem_cons.mp hy with z | z
      · rw [z] at e2; omega
      · exact ⟨y, z, e1, e2⟩
/-- what places cost -/
def costF (pr : Int → Int) (l : List Int) : Int := (l.map pr).sum
/-- the least costs up to the k-th spot: c of a spot with its own price, back where it comes from -/
structure Costs (rs : List (Int × Int)) (pr : Int → Int) (k : Int) (c back : Int → Int) : Prop where
  zero : c 0 = 0
  from_ : ∀ s, 1 ≤ s → s ≤ k → 0 ≤ back s ∧ back s < s ∧ (∃ b, BackAt rs s b ∧ b ≤ back s) ∧ c s = c (back s) + pr (s - 1)
  least : ∀ s, 1 ≤ s → s ≤ k → ∀ b o, BackAt rs s b → b ≤ o → o < s → c s ≤ c o + pr (s - 1)
theorem Costs.low {rs : List (Int × Int)} {pr : Int → Int} {k : Int} {c back : Int → Int} (C : Costs rs pr k c back) : ∀ {l : List Int} {s : Int}, 1 ≤ s → s ≤ k → Way rs s l → c s ≤ costF pr l + pr (s - 1)
  | [], s, h1, h2, h => by
    have := C.least s h1 h2 0 0 h (Int.le_refl _) (by omega)
    have := C.zero
    show c s ≤ 0 + _
    omega
  | x :: l, s, h1, h2, h => by
    obtain ⟨e1, e2, ⟨b, hb, hx⟩, h4⟩ := h
    have a1 := C.least s h1 h2 b (x + 1) hb hx e1
    have a2 := C.low (l := l) (s := x + 1) (by omega) (by omega) h4
    have e : x + 1 - 1 = x := by omega
    rw [e] at a2
    show c s ≤ (pr x + costF pr l) + _
    omega
/-- the way back from a spot -/
theorem Costs.way {rs : List (Int × Int)} {pr : Int → Int} {k : Int} {c back : Int → Int} (C : Costs rs pr k c back) {l : List Int} {s : Int} (h1 : 1 ≤ s) (h2 : s ≤ k) (h : if back s = 0 then l = [] else ∃ l', l = (back s - 1) :: l' ∧ Way rs (back s) l' ∧ costF pr l' + pr (back s - 1) = c (back s)) : Way rs s l ∧ costF pr l + pr (s - 1) = c s := by
  obtain ⟨f1, f2, ⟨b, hb, f3⟩, f4⟩ := C.from_ s h1 h2
  split at h
  · next z =>
    subst h
    rw [z] at f3 f4
    have b0 : b = 0 := by have := hb.lo; omega
    subst b0
    refine ⟨hb, ?_⟩
    have := C.zero
    show 0 + _ = _
    omega
  · next z =>
    obtain ⟨l', rfl, hw, hc⟩ := h
    refine ⟨⟨by omega, by omega, ⟨b, hb, by omega⟩, by rw [show back s - 1 + 1 = back s by omega]; exact hw⟩, ?_⟩
    show (pr (back s - 1) + costF pr l') + _ = _
    omega

/-! ### furthest_back -/
def IntsA (H : Hp) (a : Addr) (ns : List Int) : Prop := H a = some (.lst (ns.map V.int))
theorem IntsA.at {ns : List Int} {i : Nat} {v : Int} (h : ns[i]? = some v) : atI (ns.map V.int) (i : Int) = some (.int v) := atI_nat (by rw [List.getElem?_map, h]; rfl)
theorem Same.put {H Hx : Hp} {p : Addr} {o : HO} (s : Same H Hx) (np : H p = none) : Same H (upd Hx p o) := fun b o' e => by
  rw [upd_ne (ne_of_none e np)]
  exact s b o' e
def RunIn (many : Int) (rs : List (Int × Int)) : Prop := ∀ r ∈ rs, 0 ≤ r.1 ∧ r.1 ≤ r.2 ∧ r.2 < many
theorem none_of_upd {H : Hp} {p q : Addr} {o : HO} (h : upd H p o q = none) : H q = none := by
  by_cases c : q = p
  · subst c; rw [upd_same] at h; cases h
  · rwa [upd_ne c] at h
structure Bk1 (rs : List (Int × Int)) (s b : Int) : Prop where
  lo : 0 ≤ b
  all : ∀ r ∈ rs, r.2 + 2 = s → r.1 + 1 ≤ b
  one : b = 0 ∨ ∃ r ∈ rs, r.2 + 2 = s ∧ b = r.1 + 1
def spBacks (K : PySem.W.Frag) : Sp := fun vs H Q _ => ∃ (many : Int) (b : Addr) (rs : List (Int × Int)), vs = [.int many, .ref b] ∧ LsA H b rs ∧ 0 ≤ many ∧ many ≤ 900 ∧ RunIn many rs ∧
  ∀ l bs H', H l = none → Same H H' → IntsA H' l bs → (bs.length : Int) = many + 2 → (∀ (s : Nat) v, bs[s]? = some v → BackAt rs s v) → Q (.ref l) H'
abbrev sBacks : Stmt := topS 1
theorem scBacks : FnScope ["many", "runs", "backs", "first", "last", "spot"] ["many", "runs"] (defScope sBacks) := ⟨rfl, rfl, rfl, by decide +kernel, rfl, by decide +kernel, by decide +kernel⟩
section
variable {K : PySem.W.Frag} {mg : Str → Option Value} {P : Program} {w : World} {base : Heap}
theorem ok_Backs {f : Addr} {fd : FuncData} (F : Fun K "furthest_back" "furthest_back" sBacks f fd) (m_max : mg "max" = none) (m_range : mg "range" = none) : FnOk P w K mg base CX0 1 f fd ["many", "runs"] (spBacks K) := by
  refine F.ok scBacks (fun vs H Q E h => ?_) (fun cdv A outer s H vs Q E hr h => ?_)
  · obtain ⟨many, b, rs, rfl, _⟩ := h
    rfl
  · obtain ⟨many, b, rs, rfl, hL, m0, m1, hr0, q⟩ := h
    refine ⟨_, pss_cons (ps_set (i := 2) scBacks.nd rfl (.inl rfl) (pe_op op_rep (pe_lst (pa_cons pe_int pa_nil)) (pe_op op_add (pv 0) pe_int)))
      (pss_cons (ps_for PassesOwn.never rfl (pi_list (pv 1)) (pg_tup rfl (pgs_cons (pg_name (i := 3) scBacks.nd rfl (.inl rfl)) (pgs_cons (pg_name (i := 4) scBacks.nd rfl (.inl rfl)) pgs_nil)))
        (pss_one (ps_asg (pe_callB (call_max2 rfl) (by rfl) m_max (by decide +kernel) (pa_cons (pe_ix ix_list (pv 2) (pe_op op_add (pv 4) pe_int) (fun _ _ => rfl)) (pa_cons (pe_op op_add (pv 3) pe_int) pa_nil))) (pg_sub (pv 2) (pe_op op_add (pv 4) pe_int) set_list))))
      (pss_cons (ps_for PassesOwn.never rfl (pi_range1 rfl m_range (pa_cons (pe_op op_add (pv 0) pe_int) pa_nil)) (pg_name (i := 5) scBacks.nd rfl (.inl rfl))
        (pss_one (ps_asg (pe_callB (call_max2 rfl) (by rfl) m_max (by decide +kernel) (pa_cons (pe_ix ix_list (pv 2) (pe_op op_add (pv 5) pe_int) (fun _ _ => rfl)) (pa_cons (pe_ix ix_list (pv 2) (pv 5) (fun _ _ => rfl)) pa_nil))) (pg_sub (pv 2) (pe_op op_add (pv 5) pe_int) set_list))))
      (pss_one (ps_ret (pv 2))))), ?_⟩
    obtain ⟨us, eb, hpr⟩ := hL
    refine ⟨Nat.le_of_ble_eq_true rfl, fun p0 np0 => ⟨_, rfl, many, 2, rfl, rfl, p0, many + 2, _, rfl, rfl, upd_same, by omega, by omega, ?_, fun p np => ?_⟩⟩
    · show 1 * _ ≤ _
      have e := small1000 (n := (many + 2).toNat) (by omega)
      omega
    have np' : H p = none := none_of_upd np
    have s0 := same_upd (o := .lst [.int 0]) np0
    have s1 : Same H (upd (upd H p0 (.lst [.int 0])) p (.lst ((List.replicate (many + 2).toNat (0 : Int)).map V.int))) := Same.put s0 np'
    have e0 : (List.replicate (many + 2).toNat [V.int 0]).flatten = (List.replicate (many + 2).toNat (0 : Int)).map V.int := by
      rw [List.map_replicate]
      generalize (many + 2).toNat = n
      induction n with
      | zero => rfl
      | succ n ih => rw [List.replicate_succ, List.flatten_cons, ih, List.replicate_succ]; rfl
    rw [e0]
    refine ⟨_, rfl, b, rfl, ⟨_, SqL.of (s1 _ _ eb)⟩, for_list (xs := us) (fun i σ Hx => ∃ (bs : List Int) (y3 y4 y5 : Option V), σ = [some (.int many), some (.ref b), some (.ref p), y3, y4, y5] ∧ Same H Hx ∧ IntsA Hx p bs ∧ (bs.length : Int) = many + 2 ∧ ∀ (s : Nat) v, bs[s]? = some v → Bk1 (rs.take i) s v)
      ⟨_, _, _, _, rfl, s1, upd_same, by rw [List.length_replicate]; omega, fun s v e => ?_⟩ (fun i σ Hx _ hP => ?_) (fun i x σ Hx hx hP => ?_) (fun σ Hx hP => ?_)⟩
    · rw [List.getElem?_replicate] at e
      split at e
      · cases e
        exact ⟨Int.le_refl _, (fun r h => by rw [List.take_zero] at h; cases h), .inl rfl⟩
      · cases e
    · obtain ⟨bs, y3, y4, y5, rfl, s2, _⟩ := hP
      exact SqL.of (s2 _ _ eb)
    · obtain ⟨bs, y3, y4, y5, rfl, s2, hI, hl, hB⟩ := hP
      obtain ⟨r, T, er, rfl, eT⟩ := prs_at hpr hx
      obtain ⟨h1, h2, h3⟩ := hr0 r (List.mem_of_getElem? er)
      obtain ⟨j, hj⟩ := Int.eq_ofNat_of_zero_le (show 0 ≤ r.2 + 2 by omega)
      have lj : j < bs.length := by omega
      obtain ⟨v, ev⟩ : ∃ v, bs[j]? = some v := ⟨_, List.getElem?_eq_getElem lj⟩
      have tk : rs.take (i + 1) = rs.take i ++ [r] := by rw [List.take_add_one, er]; rfl
      refine ⟨T, _, rfl, .inl (.inl (s2 _ _ eT)), rfl, _, _, rfl, _, _, rfl, rfl, ?_⟩
      refine ⟨_, rfl, _, rfl, r.2, 2, rfl, rfl, p, _, r.2 + 2, .int v, rfl, rfl, SqL.of hI, by rw [hj]; exact IntsA.at ev, _, rfl, r.1, 1, rfl, rfl, _, _, rfl, ?_⟩
      refine ⟨_, rfl, _, rfl, r.2, 2, rfl, rfl, p, _, _, j, rfl, rfl, hI, by rw [hj, List.length_map]; exact ixN_of lj, ?_⟩
      refine ⟨bs.set j (if r.1 + 1 > v then r.1 + 1 else v), _, _, _, rfl, Same.put s2 np', ?_, by rw [List.length_set]; exact hl, fun s w e => ?_⟩
      · show upd _ _ _ _ = _
        rw [upd_same, List.map_set]
      · rw [tk]
        by_cases c : s = j
        · subst c
          rw [List.getElem?_set_self lj] at e
          cases e
          have g := hB s v ev
          refine ⟨?_, fun x hx e => ?_, ?_⟩
          · have := g.lo
            split <;> omega
          · rcases List.mem_append.mp hx with z | z
            · have := g.all x z e
              split <;> omega
            · rw [List.mem_singleton.mp z]
              split <;> omega
          · split
            · exact .inr ⟨r, List.mem_append_right _ (List.mem_singleton.mpr rfl), hj, rfl⟩
            · rcases g.one with z | ⟨x, x1, x2, x3⟩
              · exact .inl z
              · exact .inr ⟨x, List.mem_append_left _ x1, x2, x3⟩
        · rw [List.getElem?_set_ne (Ne.symm c)] at e
          have g := hB s w e
          refine ⟨g.lo, fun x hx e => ?_, ?_⟩
          · rcases List.mem_append.mp hx with z | z
            · exact g.all x z e
            · rw [List.mem_singleton.mp z] at e
              omega
          · rcases g.one with z | ⟨x, x1, x2, x3⟩
            · exact .inl z
            · exact .inr ⟨x, List.mem_append_left _ x1, x2, x3⟩
    · obtain ⟨bs, y3, y4, y5, rfl, s2, hI, hl, hB⟩ := hP
      rw [hpr.1, List.take_length] at hB
      refine ⟨_, rfl, many, 1, rfl, rfl, many + 1, rfl, by omega, by omega, for_range (n := (many + 1).toNat) (fun i σ Hx => ∃ (bs : List Int) (y3 y4 y5 : Option V), σ = [some (.int many), some (.ref b), some (.ref p), y3, y4, y5] ∧ Same H Hx ∧ IntsA Hx p bs ∧ (bs.length : Int) = many + 2 ∧ (∀ (s : Nat) v, s ≤ i → bs[s]? = some v → BackAt rs s v) ∧ ∀ (s : Nat) v, i < s → bs[s]? = some v → Bk1 rs s v)
        ⟨bs, _, _, _, rfl, s2, hI, hl, fun s v hs e => ?_, fun s v _ e => hB s v e⟩ (fun i σ Hx hi hP => ?_) (fun σ Hx hP => ?_)⟩
      · have z : s = 0 := Nat.le_zero.mp hs
        subst z
        have g := hB 0 v e
        refine ⟨g.lo, fun r hr e => ?_, ?_⟩
        · have := hr0 r hr; omega
        · rcases g.one with z | ⟨x, x1, x2, x3⟩
          · exact .inl z
          · have := hr0 x x1; omega
      · obtain ⟨bs, y3, y4, y5, rfl, s2, hI, hl, hA, hB⟩ := hP
        have l0 : i < bs.length := by omega
        have l1 : i + 1 < bs.length := by omega
        obtain ⟨v, ev⟩ : ∃ v, bs[i]? = some v := ⟨_, List.getElem?_eq_getElem l0⟩
        obtain ⟨v1, ev1⟩ : ∃ v, bs[i + 1]? = some v := ⟨_, List.getElem?_eq_getElem l1⟩
        have ei : (0 : Int) + (i : Int) = (i : Nat) := by omega
        have ei1 : (0 : Int) + (i : Int) + 1 = ((i + 1 : Nat) : Int) := by omega
        refine ⟨_, rfl, _, rfl, _, 1, rfl, rfl, p, _, _, .int v1, rfl, rfl, SqL.of hI, by rw [ei1]; exact IntsA.at ev1, _, rfl, _, rfl, p, _, _, .int v, rfl, rfl, SqL.of hI, by rw [ei]; exact IntsA.at ev, _, _, rfl, ?_⟩
        refine ⟨_, rfl, _, rfl, _, 1, rfl, rfl, p, _, _, i + 1, rfl, rfl, hI, by rw [ei1, List.length_map]; exact ixN_of l1, ?_⟩
        have g0 := hA i v (Nat.le_refl _) ev
        have g1 := hB (i + 1) v1 (Nat.lt_succ_self _) ev1
        refine ⟨bs.set (i + 1) (if v > v1 then v else v1), _, _, _, rfl, Same.put s2 np', ?_, by rw [List.length_set]; exact hl, fun s w hs e => ?_, fun s w hs e => ?_⟩
        · show upd _ _ _ _ = _
          rw [upd_same, List.map_set]
        · by_cases c : s = i + 1
          · subst c
            rw [List.getElem?_set_self l1] at e
            cases e
            refine ⟨?_, fun x hx e => ?_, ?_⟩
            · have := g0.lo
              have := g1.lo
              split <;> omega
            · by_cases c : x.2 + 2 ≤ (i : Int)
              · have := g0.all x hx c
                split <;> omega
              · have := g1.all x hx (by omega)
                split <;> omega
            · split
              · rcases g0.one with z | ⟨x, x1, x2, x3⟩
                · exact .inl z
                · exact .inr ⟨x, x1, by omega, x3⟩
              · rcases g1.one with z | ⟨x, x1, x2, x3⟩
                · exact .inl z
                · exact .inr ⟨x, x1, by omega, x3⟩
          · rw [List.getElem?_set_ne (Ne.symm c)] at e
            exact hA s w (by omega) e
        · rw [List.getElem?_set_ne (by omega)] at e
          exact hB s w (by omega) e
      · obtain ⟨bs, y3, y4, y5, rfl, s2, hI, hl, hA, hB⟩ := hP
        exact ⟨_, rfl, q p bs Hx np' s2 hI hl fun s v e => hA s v (by have := (List.getElem?_eq_some_iff.mp e).1; omega) e⟩
end

/-! ### the least costs, spot by spot -/
def cF (cs : List Int) (s : Int) : Int := cs.getD s.toNat 0
theorem cF_at {cs : List Int} {i : Nat} {v : Int} (h : cs[i]? = some v) : cF cs (i : Int) = v := by
  unfold cF
  rw [Int.toNat_natCast, List.getD_eq_getElem?_getD, h]
  rfl
theorem cF_old {cs : List Int} {v s : Int} (h1 : s < cs.length) (h0 : 0 ≤ s) : cF (cs ++ [v]) s = cF cs s := by
  unfold cF
  rw [List.getD_eq_getElem?_getD, List.getD_eq_getElem?_getD, List.getElem?_append_left (by omega)]
theorem cF_new {cs : List Int} {v s : Int} (h : s = cs.length) : cF (cs ++ [v]) s = v := by
  subst h
  exact cF_at (by simp)
theorem Costs.one {rs : List (Int × Int)} {pr : Int → Int} : Costs rs pr ((0 : Nat) : Int) (cF [0]) (cF [0]) :=
  ⟨rfl, fun s h1 h2 => by omega, fun s h1 h2 => by omega⟩
theorem Costs.step {rs : List (Int × Int)} {pr : Int → Int} {cs ah : List Int} {i : Nat} (C : Costs rs pr (i : Int) (cF cs) (cF ah)) (hl : cs.length = i + 1) (hl' : ah.length = i + 1) {b o : Int} (hb : BackAt rs ((i : Int) + 1) b) (h1 : b ≤ o) (h2 : o < (i : Int) + 1) (hm : ∀ o', b ≤ o' → o' < (i : Int) + 1 → cF cs o ≤ cF cs o') :
    Costs rs pr ((i + 1 : Nat) : Int) (cF (cs ++ [cF cs o + pr (i : Int)])) (cF (ah ++ [o])) := by
  have b0 := hb.lo
  have old : ∀ s : Int, 0 ≤ s → s ≤ (i : Int) → cF (cs ++ [cF cs o + pr (i : Int)]) s = cF cs s := fun s z1 z2 => cF_old (by omega) z1
  have old' : ∀ s : Int, 0 ≤ s → s ≤ (i : Int) → cF (ah ++ [o]) s = cF ah s := fun s z1 z2 => cF_old (by omega) z1
  have nw : cF (cs ++ [cF cs o + pr (i : Int)]) ((i : Int) + 1) = cF cs o + pr (i : Int) := cF_new (by omega)
  have nw' : cF (ah ++ [o]) ((i : Int) + 1) = o := cF_new (by omega)
  refine ⟨by rw [old 0 (by omega) (by omega)]; exact C.zero, fun s z1 z2 => ?_, fun s z1 z2 b' o' hb' e1 e2 => ?_⟩
  · by_cases c : s ≤ (i : Int)
    · obtain ⟨f1, f2, f3, f4⟩ := C.from_ s z1 c
      rw [old' s (by omega) c, old s (by omega) c, old _ f1 (by omega)]
      exact ⟨f1, f2, f3, f4⟩
    · have e : s = (i : Int) + 1 := by omega
      subst e
      rw [nw', nw, old o (by omega) (by omega), show (i : Int) + 1 - 1 = (i : Int) by omega]
      exact ⟨by omega, h2, ⟨b, hb, h1⟩, rfl⟩
  · have b'0 := hb'.lo
    by_cases c : s ≤ (i : Int)
    · have := C.least s z1 c b' o' hb' e1 e2
      rw [old s (by omega) c, old o' (by omega) (by omega)]
      exact this
    · have e : s = (i : Int) + 1 := by omega
      subst e
      have eb := hb.eq hb'
      subst eb
      rw [nw, old o' (by omega) (by omega), show (i : Int) + 1 - 1 = (i : Int) by omega]
      have := hm o' e1 (by omega)
      omega
/-- what is due of the way behind a spot -/
def Rest (rs : List (Int × Int)) (pr c : Int → Int) (s : Int) (l : List Int) : Prop := if s = 0 then l = [] else ∃ l', l = (s - 1) :: l' ∧ Way rs s l' ∧ costF pr l' + pr (s - 1) = c s
theorem costF_cons (pr : Int → Int) (x : Int) (l : List Int) : costF pr (x :: l) = pr x + costF pr l := rfl
theorem costF_rev (pr : Int → Int) (l : List Int) : costF pr l.reverse = costF pr l := by
  induction l with
  | nil => rfl
  | cons x l ih =>
    unfold costF at *
    rw [List.reverse_cons, List.map_append, List.sum_append, ih, List.map_cons, List.sum_cons]
    simp
    omega
/-! ### a comprehension that makes pairs -/
theorem lc_pairs {J : It} {n : Nat} {G : Hp → Prop} {Y : Nat → Hp → V → Hp → Prop} (w : Walk J n G Y) {g : TG} {tt : TT} {te : TE} {vs : List Nat} {σ : L2.St} {H1 : Hp} {D : Addr} {Qd : Hp → Prop} (ps : List (Int × Int)) (nD : H1 D = none) (hn : ps.length = n) (hz : n ≤ 1000) (hG : ∀ H, Same H1 H → G H)
    (turn : ∀ i x p H H' (Kt : V → Hp → Prop) (Kn : Hp → Prop), ps[i]? = some p → Same H1 H → Y i H x H' → (∀ T H4, Same H H4 → H4 T = some (.tup [.int p.1, .int p.2]) → Kt (.ref T) H4) → g x (wipe σ vs) H' fun σ2 H2 => wipe σ2 vs = wipe σ vs ∧ tt σ2 H2 fun b H3 => if b = true then te σ2 H3 Kt else Kn H3)
    (fin : ∀ H, Same H1 H → LsA H D ps → Qd H) : LcW J g tt te vs σ D Qd H1 := by
  refine lc_it w (fun j H => Same H1 H ∧ ∃ ws, H D = some (.lst ws) ∧ Prs H ws (ps.take j)) ⟨same_upd nD, [], upd_same, ⟨rfl, fun i p e => by rw [List.take_zero] at e; cases e⟩⟩ (fun i H _ p => hG H p.1) (fun i x H H' hi hP hy => ?_) (fun H hP => ?_)
  · obtain ⟨sm, ws, eD, hws⟩ := hP
    have hd : ps[i]? = some ps[i] := List.getElem?_eq_getElem (by omega)
    refine turn i x _ H H' _ _ hd sm hy fun T H4 s4 hT => ?_
    have eD4 := s4 _ _ eD
    have hl' : ws.length < 1000 := by
      rw [hws.1, List.length_take]
      omega
    refine ⟨ws, eD4, Nat.lt_of_lt_of_le hl' (by decide), fun b o e => ?_, ws ++ [.ref T], upd_same, ?_⟩
    · rw [upd_ne (ne_of_none e nD)]
      exact s4 _ _ (sm b o e)
    · rw [List.take_add_one, hd]
      exact ((hws.same s4).snoc hT).upd_lst eD4
  · obtain ⟨sm, ws, eD, hws⟩ := hP
    rw [List.take_of_length_le (by omega)] at hws
    exact fin H sm ⟨ws, eD, hws⟩

/-! ### least_places -/
theorem u64 {k : Nat} {A : Around} (r : Room k A) : A.units + 64 < cLine := by have := r.un; omega
/-- the price of a place; nought behind all -/
def prF (ps : List Int) : Int → Int := cF (ps ++ [0])
def spPlaces (K : PySem.W.Frag) : Sp := fun vs H Q _ => ∃ (a b : Addr) (ps : List Int) (rs : List (Int × Int)), vs = [.ref a, .ref b] ∧ IntsA H a ps ∧ LsA H b rs ∧ ps.length ≤ 900 ∧ RunIn ps.length rs ∧
  ∀ l H' pre, H l = none → Same H H' → IntsA H' l pre.reverse → Way rs ((ps.length : Int) + 1) pre → (∀ l', Way rs ((ps.length : Int) + 1) l' → costF (prF ps) pre ≤ costF (prF ps) l') → Q (.ref l) H'
structure PlW (H : Hp) (a b pb pc pa pl : Addr) (ps : List Int) (rs : List (Int × Int)) (bs cs ah : List Int) (i : Nat) (Hx : Hp) : Prop where
  sm : Same H Hx
  eb : IntsA Hx pb bs
  ec : IntsA Hx pc cs
  ea : IntsA Hx pa ah
  el : IntsA Hx pl (ps ++ [0])
  lc : cs.length = i + 1
  la : ah.length = i + 1
  cst : Costs rs (prF ps) (i : Int) (cF cs) (cF ah)
abbrev sPlaces : Stmt := topS 2
theorem scPlaces : FnScope ["prices", "runs", "backs", "costs", "ahead", "spot", "price", "cost", "back", "places", "one"] ["prices", "runs"] (defScope sPlaces) := ⟨rfl, rfl, rfl, by decide +kernel, rfl, by decide +kernel, by decide +kernel⟩
section
variable {K : PySem.W.Frag} {mg : Str → Option Value} {P : Program} {w : World} {base : Heap}
theorem ok_Places {f : Addr} {fd : FuncData} (F : Fun K "least_places" "least_places" sPlaces f fd) (C_furthest_back : Cal P w K mg base 1 "furthest_back" ["many", "runs"] (spBacks K)) (m_len : mg "len" = none) (m_enumerate : mg "enumerate" = none) (m_range : mg "range" = none) (m_min : mg "min" = none) : FnOk P w K mg base CX0 2 f fd ["prices", "runs"] (spPlaces K) := by
  refine F.ok scPlaces (fun vs H Q E h => ?_) (fun cdv A outer s H vs Q E hr h => ?_)
  · obtain ⟨a, b, ps, rs, rfl, _⟩ := h
    rfl
  · obtain ⟨a, b, ps, rs, rfl, hA, hL, hz, hr0, q⟩ := h
    refine ⟨_, pss_cons (ps_set (i := 2) scPlaces.nd rfl (.inl rfl) (pe_own C_furthest_back hr (by rfl) (pa_cons (pe_callB call_len_seq (by rfl) m_len PySem.boot_len (pa_cons (pv 0) pa_nil)) (pa_cons (pv 1) pa_nil))))
      (pss_cons (ps_set (i := 3) scPlaces.nd rfl (.inr rfl) (pe_lst (pa_cons pe_int pa_nil)))
      (pss_cons (ps_set (i := 4) scPlaces.nd rfl (.inl rfl) (pe_lst (pa_cons pe_int pa_nil)))
      (pss_cons (ps_for PassesOwn.never rfl (pi_enumF (by rfl) m_enumerate (pa_cons (pe_lst (StX.pa_star (pv 0) (pa_cons pe_int pa_nil))) pa_nil) (pk_cons pe_int pk_nil) ⟨_, rfl⟩ rfl rfl rfl) (pg_tup rfl (pgs_cons (pg_name (i := 5) scPlaces.nd rfl (.inl rfl)) (pgs_cons (pg_name (i := 6) scPlaces.nd rfl (.inl rfl)) pgs_nil)))
        (pss_cons (ps_asg (pe_callB (cr_minP rfl (u64 hr)) (by rfl) m_min (by decide +kernel) (pa_cons (pe_lc (own := [("one", 10)]) (g := (gName 10)) (tt := tYes) (te := (tTup (tCons (tOp (rIxL K) (tVar 3) (tVar 10)) (tCons (tVar 10) tNil)))) rfl scPlaces.nd (pi_range2 rfl m_range (pa_cons (pe_ix ix_list (pv 2) (pv 5) (fun _ _ => rfl)) (pa_cons (pv 5) pa_nil))) (blkOk_by (own := [("one", 10)]) (N := ["prices", "runs", "backs", "costs", "ahead", "spot", "price", "cost", "back", "places", "one"]) (sc := defScope sPlaces) (by decide +kernel)) (fun _ _ _ _ _ => (pg_name (i := 10) scPlaces.nd rfl (.inl rfl))) (fun _ _ _ _ _ => pts_nil) (fun _ _ _ _ _ => (pe_tup (pa_cons (pe_ix ix_list (pv 3) (pv 10) (fun _ _ => rfl)) (pa_cons (pv 10) pa_nil))))) pa_nil)) (pg_tup rfl (pgs_cons (pg_name (i := 7) scPlaces.nd rfl (.inl rfl)) (pgs_cons (pg_name (i := 8) scPlaces.nd rfl (.inl rfl)) pgs_nil))))
        (pss_cons (ps_expr (pe_bm PySem.F.plainAttrs_list PySem.F.slot_list_append PySem.F.type_list_append mt_append (pv 3) (pa_cons (pe_op op_add (pv 7) (pv 6)) pa_nil)))
        (pss_one (ps_expr (pe_bm PySem.F.plainAttrs_list PySem.F.slot_list_append PySem.F.type_list_append mt_append (pv 4) (pa_cons (pv 8) pa_nil)))))))
      (pss_cons (ps_set (i := 9) scPlaces.nd rfl (.inl rfl) (pe_lst pa_nil))
      (pss_cons (ps_set (i := 5) scPlaces.nd rfl (.inl rfl) (pe_ix ix_list (pv 4) (pe_un un_neg pe_int) (fun _ _ => rfl)))
      (pss_cons (ps_while PassesOwn.never (pt_cmpR op_gt (pv 5) pe_int (nomark _))
        (pss_cons (ps_expr (pe_bm PySem.F.plainAttrs_list PySem.F.slot_list_append PySem.F.type_list_append mt_append (pv 9) (pa_cons (pe_op op_sub (pv 5) pe_int) pa_nil)))
        (pss_one (ps_set (i := 5) scPlaces.nd rfl (.inl rfl) (pe_ix ix_list (pv 4) (pv 5) (fun _ _ => rfl))))))
      (pss_one (ps_ret (pe_revL (pv 9)))))))))), ?_⟩
    refine ⟨_, rfl, a, _, rfl, .inl (SqL.of hA), _, rfl, ((ps.map V.int).length : Int), b, rs, rfl, hL, by omega, by rw [List.length_map]; omega, by rw [List.length_map]; exact hr0, fun pb bs H1 npb s1 eb lb hB => ?_⟩
    rw [List.length_map] at lb
    refine ⟨Nat.le_of_ble_eq_true rfl, fun pc npc => ⟨Nat.le_of_ble_eq_true rfl, fun pa npa => ?_⟩⟩
    have npc0 : H pc = none := s1.free npc
    have npa1 : H1 pa = none := none_of_upd npa
    have npa0 : H pa = none := s1.free npa1
    have pbc : pb ≠ pc := ne_of_none eb npc
    have pba : pb ≠ pa := ne_of_none eb npa1
    have pca : pc ≠ pa := fun z => by rw [← z, upd_same] at npa; cases npa
    have sA : Same H1 (upd (upd H1 pc (.lst [.int 0])) pa (.lst [.int 0])) := Same.put (same_upd npc) npa1
    have ecA : IntsA (upd (upd H1 pc (.lst [.int 0])) pa (.lst [.int 0])) pc [0] := by
      show upd _ _ _ _ = _
      rw [upd_ne pca]
      exact upd_same
    have eaA : IntsA (upd (upd H1 pc (.lst [.int 0])) pa (.lst [.int 0])) pa [0] := upd_same
    generalize hHA : upd (upd H1 pc (.lst [.int 0])) pa (.lst [.int 0]) = HA at sA ecA eaA
    have hmap : ps.map V.int ++ [V.int 0] = (ps ++ [0]).map V.int := by rw [List.map_append]; rfl
    refine ⟨_, rfl, a, _, rfl, .inr (SqL.of (sA _ _ (s1 _ _ hA))), ?_⟩
    refine ⟨?_, fun pl npl => ?_⟩
    · have := small1000 (n := (ps.map V.int ++ [V.int 0]).length) (by simp; omega)
      exact Nat.le_of_lt this
    rw [hmap]
    have sL := same_upd (o := .lst ((ps ++ [0]).map V.int)) npl
    have plb : pb ≠ pl := ne_of_none (sA _ _ eb) npl
    have plc : pc ≠ pl := ne_of_none ecA npl
    have pla : pa ≠ pl := ne_of_none eaA npl
    have npl0 : H pl = none := s1.free (sA.free npl)
    have len : (((ps ++ [0]).map V.int).length) = ps.length + 1 := by simp
    refine ⟨pl, _, 1, rfl, rfl, SqL.of upd_same, by decide, by decide, for_it (walk_enumF (xs := (ps ++ [0]).map V.int)) (fun i σ Hx => ∃ (cs ah : List Int) (y5 y6 y7 y8 y10 : Option V), σ = [some (.ref a), some (.ref b), some (.ref pb), some (.ref pc), some (.ref pa), y5, y6, y7, y8, none, y10] ∧ PlW H a b pb pc pa pl ps rs bs cs ah i Hx)
      ⟨[0], [0], _, _, _, _, _, rfl, s1.trans (sA.trans sL), sL _ _ (sA _ _ eb), sL _ _ ecA, sL _ _ eaA, upd_same, rfl, rfl, Costs.one⟩ (fun i σ Hx _ hP => ?_) (fun i x σ Hx H' hi hP hy => ?_) (fun σ Hx hP => ?_)⟩
    · obtain ⟨cs, ah, y5, y6, y7, y8, y10, rfl, W⟩ := hP
      exact SqL.of W.el
    · obtain ⟨cs, ah, y5, y6, y7, y8, y10, rfl, W⟩ := hP
      obtain ⟨T, x1, x2, rfl, nT, rfl, e1, e2⟩ := hy
      cases e1
      rw [len] at hi
      obtain ⟨pv, epv⟩ : ∃ v, (ps ++ [0])[i]? = some v := ⟨_, List.getElem?_eq_getElem (by simp; omega)⟩
      have e2 : ((ps ++ [0]).map V.int)[i]? = some x2 := e2
      rw [List.getElem?_map, epv] at e2
      cases e2
      have eprF : prF ps (i : Int) = pv := cF_at epv
      have sT := same_upd (o := .tup [.int (1 + (i : Nat)), .int pv]) nT
      obtain ⟨bv, ebv⟩ : ∃ v, bs[i + 1]? = some v := ⟨_, List.getElem?_eq_getElem (by omega)⟩
      have hb := hB (i + 1) bv ebv
      have hb' : BackAt rs ((i : Int) + 1) bv := by rw [Int.natCast_add] at hb; exact hb
      have blt : bv < (i : Int) + 1 := hb'.lt (fun r h => (hr0 r h).2.1) (by omega)
      have b0 := hb.lo
      refine ⟨T, _, rfl, .inl (.inl upd_same), rfl, _, _, rfl, _, _, rfl, rfl, ?_⟩
      refine ⟨_, rfl, _, rfl, pb, _, _, .int bv, rfl, rfl, SqL.of (sT _ _ W.eb), by rw [show (1 : Int) + (i : Nat) = ((i + 1 : Nat) : Int) by omega]; exact IntsA.at ebv, _, rfl, bv, 1 + (i : Nat), rfl, ⟨by omega, by omega, by omega, by omega⟩, fun D nD => ?_⟩
      refine lc_pairs walk_range ((List.range (1 + ((i : Nat) : Int) - bv).toNat).map fun (j : Nat) => (cF cs (bv + j), bv + (j : Int))) nD (by simp) (by omega) (fun _ _ => trivial) (fun j x p H4 H5 Kt Kn ep s4 hy hK => ?_) (fun H4 s4 hLs => ?_)
      · obtain ⟨rfl, rfl⟩ := hy
        have lj := (List.getElem?_eq_some_iff.mp ep).1
        rw [List.length_map, List.length_range] at lj
        rw [List.getElem?_map, List.getElem?_range lj] at ep
        cases ep
        obtain ⟨k, hk⟩ := Int.eq_ofNat_of_zero_le (show 0 ≤ bv + (j : Int) by omega)
        have lk : k < cs.length := by have := W.lc; omega
        have ek : cs[k]? = some (cF cs (bv + j)) := by
          rw [List.getElem?_eq_getElem lk, hk]
          exact congrArg some (cF_at (List.getElem?_eq_getElem lk)).symm
        refine ⟨rfl, ?_⟩
        refine ⟨_, rfl, _, rfl, pc, _, _, .int (cF cs (bv + j)), rfl, rfl, SqL.of (s4 _ _ (sT _ _ W.ec)), by rw [hk] at ek ⊢; exact IntsA.at ek, _, rfl, (by show 2 ≤ sizeLine; decide), fun T2 nT2 => ?_⟩
        exact hK T2 _ (same_upd nT2) upd_same
      · obtain ⟨us, eD, hpr⟩ := hLs
        refine ⟨D, us, _, rfl, eD, hpr, ?_, fun p T2 hp hmin eT2 => ?_⟩
        · have : 0 < (1 + ((i : Nat) : Int) - bv).toNat := by omega
          intro z
          have := congrArg List.length z
          rw [List.length_map, List.length_range] at this
          simp at this
          omega
        obtain ⟨j, hj, rfl⟩ := List.mem_map.mp hp
        rw [List.mem_range] at hj
        have sX : Same Hx H4 := sT.trans s4
        have hmin' : ∀ o', bv ≤ o' → o' < (i : Int) + 1 → cF cs (bv + (j : Int)) ≤ cF cs o' := fun o' z1 z2 => by
          have := hmin (cF cs o', o') (List.mem_map.mpr ⟨(o' - bv).toNat, List.mem_range.mpr (by omega), by rw [show bv + (((o' - bv).toNat : Nat) : Int) = o' by omega]⟩)
          rcases this with z | z
          · exact Int.le_of_lt z
          · exact Int.le_of_eq z.1
        have st := W.cst.step W.lc W.la hb' (show bv ≤ bv + (j : Int) by omega) (by omega) hmin'
        refine ⟨T2, _, rfl, .inl (.inl eT2), rfl, _, _, rfl, _, _, rfl, rfl, ?_⟩
        have ec4 := sX _ _ W.ec
        have ea4 := sX _ _ W.ea
        refine ⟨_, rfl, .inl ⟨rfl, _, SqL.of ec4⟩, _, rfl, _, rfl, _, _, rfl, rfl, pc, _, _, rfl, rfl, ec4, small1000 (by rw [List.length_map, W.lc]; omega), ?_⟩
        have ea5 : (upd H4 pc (.lst (cs.map V.int ++ [.int (cF cs (bv + (j : Int)) + pv)]))) pa = some (.lst (ah.map V.int)) := by rw [upd_ne (Ne.symm pca)]; exact ea4
        refine ⟨_, rfl, .inl ⟨rfl, _, SqL.of ea5⟩, _, rfl, pa, _, _, rfl, rfl, ea5, small1000 (by rw [List.length_map, W.la]; omega), ?_⟩
        refine ⟨cs ++ [cF cs (bv + (j : Int)) + pv], ah ++ [bv + (j : Int)], _, _, _, _, _, rfl, Same.put (Same.put (W.sm.trans sX) npc0) npa0, ?_, ?_, ?_, ?_, by rw [List.length_append, W.lc]; rfl, by rw [List.length_append, W.la]; rfl, by rw [← eprF]; exact st⟩
        · show upd _ _ _ _ = _
          rw [upd_ne pba, upd_ne pbc]
          exact sX _ _ W.eb
        · show upd _ _ _ _ = _
          rw [upd_ne pca, upd_same, List.map_append]
          rfl
        · show upd _ _ _ _ = _
          rw [upd_same, List.map_append]
          rfl
        · show upd _ _ _ _ = _
          rw [upd_ne (Ne.symm pla), upd_ne (Ne.symm plc)]
          exact sX _ _ W.el
    · obtain ⟨cs, ah, y5, y6, y7, y8, y10, rfl, W⟩ := hP
      rw [len] at W
      have la := W.la
      have lc := W.lc
      obtain ⟨ah', v, rfl⟩ : ∃ ah' v, ah = ah' ++ [v] := by
        have hne : ah ≠ [] := fun z => by rw [z] at la; cases la
        exact ⟨_, _, (List.dropLast_concat_getLast hne).symm⟩
      have lah : ah'.length = ps.length + 1 := by rw [List.length_append] at la; exact Nat.succ.inj la
      have ev : cF (ah' ++ [v]) ((ps.length : Int) + 1) = v := cF_new (by omega)
      have em : atI ((ah' ++ [v]).map V.int) (-1) = some (.int v) := by rw [List.map_append]; exact atI_last _ _
      have cst : Costs rs (prF ps) ((ps.length : Int) + 1) (cF cs) (cF (ah' ++ [v])) := by have := W.cst; rw [Int.natCast_add] at this; exact this
      have ea := W.ea
      have sm := W.sm
      generalize hah : ah' ++ [v] = ah at em ev ea cst la
      have prm : prF ps ((ps.length : Int) + 1 - 1) = 0 := by
        rw [show (ps.length : Int) + 1 - 1 = (ps.length : Nat) by omega]
        exact cF_at (by simp)
      obtain ⟨v0, v1, _⟩ := cst.from_ ((ps.length : Int) + 1) (by omega) (Int.le_refl _)
      rw [ev] at v0 v1
      refine ⟨Nat.zero_le _, fun pq npq => ?_⟩
      have sq := same_upd (o := .lst []) npq
      have npq0 : H pq = none := sm.free npq
      have paq : pa ≠ pq := ne_of_none ea npq
      refine ⟨_, rfl, 1, rfl, pa, _, -1, _, rfl, rfl, SqL.of (sq _ _ ea), em, ?_⟩
      refine ⟨fun m σ Hy => ∃ (pre : List Int) (spot : Int) (y6 y7 y8 y10 : Option V), m = spot.toNat ∧ σ = [some (.ref a), some (.ref b), some (.ref pb), some (.ref pc), some (.ref pa), some (.int spot), y6, y7, y8, some (.ref pq), y10] ∧ Same H Hy ∧ IntsA Hy pa ah ∧ IntsA Hy pq pre ∧ 0 ≤ spot ∧ spot ≤ (ps.length : Int) ∧ (pre.length : Int) + spot ≤ (ps.length : Int) ∧
        ∀ l, Rest rs (prF ps) (cF cs) spot l → Way rs ((ps.length : Int) + 1) (pre ++ l) ∧ costF (prF ps) (pre ++ l) = cF cs ((ps.length : Int) + 1),
        ⟨_, [], v, _, _, _, _, rfl, rfl, sm.trans sq, sq _ _ ea, upd_same, v0, by omega, by show (0 : Int) + v ≤ _; omega, fun l hl => ?_⟩, ?_⟩
      · have := cst.way (l := l) (s := (ps.length : Int) + 1) (by omega) (Int.le_refl _) (by rw [ev]; exact hl)
        rw [prm, Int.add_zero] at this
        exact this
      rintro m σ Hy ⟨pre, spot, y6, y7, y8, y10, rfl, rfl, s2, eaY, eq, p0, p1, p2, hR⟩
      refine ⟨_, rfl, spot, 0, rfl, rfl, _, rfl, ite2 (fun c => ?_) (fun c => ?_)⟩
      · have c' : 0 < spot := of_decide_eq_true c
        obtain ⟨f1, f2, f3⟩ := cst.from_ spot (by omega) (by omega)
        obtain ⟨k, hk⟩ := Int.eq_ofNat_of_zero_le p0
        have lk : k < ah.length := by omega
        have ek : ah[k]? = some (cF ah spot) := by
          rw [List.getElem?_eq_getElem lk, hk]
          exact congrArg some (cF_at (List.getElem?_eq_getElem lk)).symm
        refine ⟨_, fun σ' H' h => h, ?_⟩
        refine ⟨_, rfl, .inl ⟨rfl, _, SqL.of eq⟩, _, rfl, _, _, rfl, rfl, pq, _, _, rfl, rfl, eq, small1000 (by rw [List.length_map]; omega), ?_⟩
        have ea5 : (upd Hy pq (.lst (pre.map V.int ++ [.int (spot - 1)]))) pa = some (.lst (ah.map V.int)) := by rw [upd_ne paq]; exact eaY
        refine ⟨_, rfl, _, rfl, pa, _, _, .int (cF ah spot), rfl, rfl, SqL.of ea5, by rw [hk] at ek ⊢; exact IntsA.at ek, ?_⟩
        refine ⟨(cF ah spot).toNat, by omega, pre ++ [spot - 1], cF ah spot, _, _, _, _, rfl, rfl, Same.put s2 npq0, ea5, ?_, f1, by omega, ?_, fun l hl => ?_⟩
        · show upd _ _ _ _ = _
          rw [upd_same, List.map_append]
          rfl
        · rw [List.length_append]
          show ((pre.length + 1 : Nat) : Int) + _ ≤ _
          omega
        · obtain ⟨w1, w2⟩ := cst.way (l := l) (s := spot) (by omega) (by omega) hl
          have := hR ((spot - 1) :: l) (by unfold Rest; rw [if_neg (by omega)]; exact ⟨l, rfl, w1, w2⟩)
          rw [List.append_assoc]
          exact this
      · have c' : spot = 0 := by
          have : ¬ 0 < spot := fun z => c (decide_eq_true z)
          omega
        obtain ⟨w1, w2⟩ := hR [] (by unfold Rest; rw [if_pos c'])
        rw [List.append_nil] at w1 w2
        refine ⟨_, rfl, pq, _, rfl, SqL.of eq, fun l nl => ?_⟩
        refine q l _ pre (s2.free nl) (Same.trans s2 (same_upd nl)) ?_ w1 fun l' hl' => ?_
        · show upd _ _ _ _ = _
          rw [upd_same, List.map_reverse]
        · have := cst.low (l := l') (s := (ps.length : Int) + 1) (by omega) (Int.le_refl _) hl'
          rw [prm] at this
          omega
end

open LamX
theorem atI_m1 {xs : List V} {v : V} (h : xs[xs.length - 1]? = some v) : atI xs (-1) = some v := by
  have lt := (List.getElem?_eq_some_iff.mp h).1
  unfold atI ixN
  rw [if_neg (by omega), if_pos (by omega)]
  show xs[(-1 + (xs.length : Int)).toNat]? = some v
  rw [show (-1 + (xs.length : Int)).toNat = xs.length - 1 by omega]
  exact h
theorem TbL.refl {P : Addr} {q : Str} {H : Hp} (t : TabS H P q) : TbL P q H H := ⟨t, fun _ _ e _ => e⟩
theorem TbL.trans {P : Addr} {q : Str} {H H1 H2 : Hp} (a : TbL P q H H1) (b : TbL P q H1 H2) : TbL P q H H2 := ⟨b.1, fun x o e n => b.2 x o (a.2 x o e n) n⟩
theorem TbL.of {P : Addr} {q : Str} {H H2 : Hp} (t : TabS H P q) (s : Same H H2) : TbL P q H H2 := ⟨t.ext s, fun b o e _ => s b o e⟩
theorem TbL.lst {P : Addr} {q : Str} {H H2 : Hp} {a : Addr} {xs : List V} (t : TbL P q H H2) (e : H a = some (.lst xs)) : H2 a = some (.lst xs) := t.2 _ _ e fun _ z => nomatch z
theorem TbL.tup {P : Addr} {q : Str} {H H2 : Hp} {a : Addr} {xs : List V} (t : TbL P q H H2) (e : H a = some (.tup xs)) : H2 a = some (.tup xs) := t.2 _ _ e fun _ z => nomatch z
theorem LsA.tbl {P : Addr} {q : Str} {H H2 : Hp} {a : Addr} {ps : List (Int × Int)} (h : LsA H a ps) (t : TbL P q H H2) : LsA H2 a ps := by
  obtain ⟨us, e, p⟩ := h
  exact ⟨us, t.lst e, p.1, fun i r er => let ⟨x, h1, h2⟩ := p.2 i r er; ⟨x, h1, t.tup h2⟩⟩
theorem TabS.upd {H : Hp} {P : Addr} {q : Str} {l : Addr} {xs : List V} {o : HO} (t : TabS H P q) (e : H l = some (.lst xs)) : TabS (L2.upd H l o) P q := by
  obtain ⟨ps, hP, ht, hc⟩ := t
  refine ⟨ps, by rw [upd_ne (ne_of hP e (fun z => nomatch z))]; exact hP, ht, fun pos cv hcv => ?_⟩
  obtain ⟨c, ec, hco⟩ := hc pos cv hcv
  refine ⟨c, ec, ?_⟩
  rw [upd_ne (ne_of hco e (fun z => by unfold CodeO at z; cases z))]
  exact hco

open LamX
/-! ### a lambda is made: all but its own table stands -/
def ButAt (P : Addr) (H H1 : Hp) : Prop := ∀ b o, b ≠ P → H b = some o → H1 b = some o
theorem lam_make3 {X : Cx} {pins : List (Addr × Obj)} {σ : L2.St} {H : Hp} {s : Shared} {c P : Addr} {params : Arguments} {body : Expr} {scope : Scope} {pos : Pos} {E : Value → Shared → Prop} {Q : Value → Shared → Prop} (I : Inv X pins σ H s) (TB : LamX.TabB X.base X.mg c P) (hcode : X.env.code = .ref c)
    (hT : TabS H P (X.env.qual ++ "<lambda>")) (hdef : defaultsOf params X.env = ([], [])) (hfree : ∀ y ∈ scope.names, y.2 = .free → ∃ c, X.env.cells.lookup y.1 = some c)
    (fin : ∀ (f c' : Addr) (pm ctv : Value) (H1 : Hp) (s' : Shared), Inv X pins σ H1 s' → ButAt P H H1 → TabS H1 P (X.env.qual ++ "<lambda>") →
      s'.heap.get? f = some (PySem.W.kla_obj "<lambda>" (X.env.qual ++ "<lambda>") params body scope (cloFrom X.env.cells scope.names []) pm c' ctv) → H1 c' = some (CodeO c' (X.env.qual ++ "<lambda>")) → Q (.ref f) s') :
    wpAny (model X.prog X.w) X.A (eval (.Lambda params body scope pos) X.env) Q E s := by
  obtain ⟨tb, atP, triples, named⟩ := id hT
  have there : s.heap.get? P = some { cls := .none, data := .fields tb } := I.hok P _ atP
  refine PySem.W.kla_eval hdef ?_
  cases found : codeAmong pos tb.toList with
  | some old =>
    obtain ⟨c', rfl, isCode⟩ := named pos old found
    exact PySem.W.kla_makeFunctionHit (mg := X.mg) (c := c) (P := P) (ps := tb) (closure_ok hfree) I.ok.glob (I.mod.glob.keeps I.bk) hcode (TB.code.keeps I.bk) there triples found (TB.bm.keeps I.bk) fun ctv h' tk kept _ =>
      fin h'.objs.size c' _ ctv H _ (I.kept fun b o e => Heap.get?_push_of_some _ (kept b o e)) (fun _ _ _ e => e) hT (Heap.get?_push_size _ rfl) isCode
  | none =>
    refine PySem.W.kla_makeFunction (mg := X.mg) (c := c) (P := P) (ps := tb) (closure_ok hfree) I.ok.glob (I.mod.glob.keeps I.bk) hcode (TB.code.keeps I.bk) there triples found TB.gP (TB.bm.keeps I.bk) fun c' ctv h' tk kept ge _ rec_ grown => ?_
    obtain ⟨c2, oc, vs, t, same, hoc, hd, hv⟩ := rec_
    cases same
    have new : H c' = none := I.hok.fresh ge
    have J := inv_table (t' := tk) (more := #[rawInt pos.line, rawInt pos.col, .ref c']) (h' := h'.push (PySem.W.kla_obj "<lambda>" (X.env.qual ++ "<lambda>") params body scope (cloFrom X.env.cells scope.names []) ((X.mg "__name__").getD .none) c' ctv)) I atP
      (fun b o hb e => Heap.get?_push_of_some _ (kept b o hb e)) (Heap.get?_push_of_some _ grown) ge ⟨oc, vs, t, Heap.get?_push_of_some _ hoc, hd, hv⟩
    have but : ButAt P H (upd (upd H P (.tbl (tb ++ #[rawInt pos.line, rawInt pos.col, .ref c']))) c' (CodeO c' (X.env.qual ++ "<lambda>"))) := fun b o hb e => by
      rw [upd_ne (ne_of_none e new), upd_ne hb]
      exact e
    have aslist : (tb ++ #[rawInt pos.line, rawInt pos.col, .ref c']).toList = tb.toList ++ [rawInt pos.line, rawInt pos.col, .ref c'] := by simp
    refine fin h'.objs.size c' _ ctv _ _ J but ⟨_, by rw [upd_ne (ne_of_none atP new), upd_same], by rw [aslist]; exact PySem.TriplesOk_snoc _ _ _ _ triples, fun p' cv hcv => ?_⟩ (Heap.get?_push_size _ rfl) upd_same
    rw [aslist] at hcv
    rcases among_app _ triples hcv with z | z
    · obtain ⟨c0, e1, e2⟩ := named p' cv z
      exact ⟨c0, e1, but _ _ (fun w => by rw [w, atP] at e2; exact codeO_ne tb (Option.some.inj e2).symm) e2⟩
    · exact ⟨c', z, upd_same⟩
def tSortL3 (P : Addr) (q : Str) (Kf : L2.St → Hp → V → PyData → Prop) (t : TA) : TE := fun σ H Q => t σ H fun vs H1 => TabS H1 P q ∧ ∃ (a : Addr) (n : Nat) (k : V → PyData), vs = [.ref a] ∧ H1 a = some (.rng 0 (n : Int)) ∧ n ≤ 10000 ∧
  PySem.W.AllAlike ((rngV n).map k) ∧ PySem.W.Sortable ((rngV n).map k) ∧ (∀ x ∈ rngV n, (k x).depth ≤ 8) ∧ (∀ x ∈ rngV n, ∀ H2, TbL P q H1 H2 → Kf σ H2 x (k x)) ∧ ∀ H2 p, TbL P q H1 H2 → ButAt P H1 H2 → H2 p = none → Q (.ref p) (upd H2 p (.lst ((rngV n).mergeSort (PySem.W.dataLe false k))))
section
variable {X : Cx} {c P : Addr} {e : Expr} {t : TA} {params : Arguments} {body : Expr} {scope : Scope} {a : Str} {lpos kpos p pos : Pos} {Kf : L2.St → Hp → V → PyData → Prop}
theorem pe_sortedL3 (TB : LamX.TabB X.base X.mg c P) (hcode : X.env.code = .ref c) (hg : Gl X "sorted") (hm : X.mg "sorted" = none) (hr : Room 3 X.A) (ha : PA X [e] t) (hdef : defaultsOf params X.env = ([], [])) (LP : LamP X.env.scope scope a)
    (hbind : ∀ (v pm ctv : Value) (c' : Addr), bindArgs (PySem.W.kla_fn "<lambda>" (X.env.qual ++ "<lambda>") params body scope (cloFrom X.env.cells scope.names []) pm (.ref c') ctv) ⟨[v], []⟩ = pure [(a, v)])
    (hkey : KeyBody X scope a body Kf) (h1 : backTo pos (starEach [e] X.env) = (false, eval e X.env) :: backTo pos (starEach [] X.env) := by rfl) (h2 : (backTo pos (starEach [e] X.env)).any (·.1) = false := by rfl) :
    PE X (.Call (.Name "sorted" p) [e] [⟨some "key", .Lambda params body scope lpos, kpos⟩] pos) (tSortL3 P (X.env.qual ++ "<lambda>") Kf t) := by
  refine ⟨fun pins s σ H Q I h => ?_⟩
  refine wpAny_Call_Name_kw (ld_blt I hg hm (show bootBuiltins "sorted" = some (.builtin "sorted") by decide +kernel) ?_ (by decide) (by decide))
  refine PyProof.Rows.callWith_kw (thn (ha.run pos pins s σ H _ I h) fun us s1 ⟨vs, H1, I1, r1, hT, aL, n, k, ev, hS, hn, hal, hso, hdp, hkf, q1⟩ => ?_) h1 h2 rfl rfl
  subst ev
  obtain rfl := Vals.ref1 r1
  show wpAny _ _ (evalAll [do let v ← eval (.Lambda params body scope lpos) X.env; standAt pos; pure v]) _ _ s1
  have hfree : ∀ y ∈ scope.names, y.2 = .free → ∃ c, X.env.cells.lookup y.1 = some c := fun y hy e => by
    rcases LP.free y hy e with z | z
    · exact I.ok.has _ (.inl z)
    · exact I.ok.has _ (.inr z)
  refine wpAny_evalAll_cons (wpAny_bind (lam_make3 I1 TB hcode hT hdef hfree fun f c' pm ctv H2 s2 I2 b2 T2 hf hc => wpAny_bind (wpAny_standAt (wpAny_pure (wpAny_evalAll_nil ?_)))))
  have x2 : ∀ b o, H1 b = some o → (∀ ps, o ≠ .tbl ps) → H2 b = some o := fun b o e n => b2 b o (fun z => by
    obtain ⟨ps, hP, _⟩ := hT
    rw [z, hP] at e
    exact n ps (Option.some.inj e).symm) e
  have tb2 : TbL P (X.env.qual ++ "<lambda>") H1 H2 := ⟨T2, x2⟩
  have hS2 : H2 aL = some (.rng 0 (n : Int)) := x2 _ _ hS (fun _ w => nomatch w)
  obtain ⟨t0, t1, t2, hra⟩ := (show ObjOk X.prog X.w H2 s2.heap aL (.rng 0 (n : Int)) from I2.hok aL _ hS2)
  show wpAny _ _ (call (.builtin "sorted") [.ref aL] [(Str.ofString "key", .ref f)]) _ _ s2
  have hun := hr.un
  refine sorted_key_range k hr.hd hra hn hal hso (fun x hx => by have := hdp x hx; omega) (fun v x hR hx h tk kp => ?_) (fun pn out c h' tk n0 kp ho eo => ?_)
  · have I3 : Inv X pins σ H2 { s2 with heap := h, toks := tk } := I2.kept kp
    have hf3 := kp _ _ hf
    obtain ⟨⟨oc, vs', t', hoc, hdc, hvc⟩, _, _⟩ := I2.hok c' _ hc
    have hr2 : Room 1 X.A.in1.in1 := hr.in1.in1
    refine wpAny_call (codeAny_mono (R := fun r s' => ∃ u, r = .ok (.ret u) ∧ PySem.W.KeyPure (k x) { s2 with heap := h, toks := tk } u s') ?_ fun r s' hq => ?_)
    · refine PySem.W.kla_callFunE (by have := hr2.dp; omega) hf3 rfl LP.co LP.gen rfl ⟨c', oc, vs', t', rfl, kp _ _ hoc, hdc, hvc⟩ ?_
      rw [hbind]
      refine wpAny_pure (wpAny_newFunctionEnv (fun y hy => LP.own y hy) (fun y hy => by rw [List.mem_singleton.mp hy]; exact LP.par) (fun h₁ hns hsb => ⟨I3.nolimit.fresh _ hsb, ?_⟩) LP.kind)
      have kp1 : ∀ b o, h.get? b = some o → h₁.get? b = some o := fun b o e => hsb.extBut b o (Nat.ne_of_lt (Heap.lt_size e)) (Heap.get?_push_of_some _ e)
      show codeAny _ _ (.expr body (lamEnv X scope h.objs.size f c')) _ _
      refine PySem.W.kla_codeExpr (wpAny_mono (hkey pins σ H2 { s2 with heap := h, toks := tk } { s2 with heap := h₁, toks := tk + 1 } _ h.objs.size f c' v x (k x) I3 kp1 hns hR (hkf x hx H2 tb2)) (fun u s' hq => ?_) fun _ _ z => z.elim)
      obtain ⟨h5, tk5, rfl, k5, rd⟩ := hq
      exact ⟨u, rfl, h5, tk5, rfl, fun b o e => k5 b o (kp1 b o e), rd⟩
    · obtain ⟨u, rfl, hk⟩ := hq
      exact hk
  · have hlen : ((rngV n).mergeSort (PySem.W.dataLe false k)).length ≤ sizeLine := by rw [List.length_mergeSort, List.length_map, List.length_range]; exact Nat.le_trans hn (by decide)
    have np : H2 pn = none := HOk.gone (show HOk X.prog X.w H2 s2.heap from I2.hok) n0
    exact ⟨.ref _, upd H2 pn (.lst ((rngV n).mergeSort (PySem.W.dataLe false k))), Inv.laidN (t' := tk) I2 kp n0 np ⟨hlen, _, c, eo, ho⟩, rfl, q1 H2 _ tb2 b2 np⟩
end

open LamX
/-! ### most_dues -/
theorem get_list {X : Cx} : PGet X (rIxL X.K) := by
  intro pins s σ H x y v u Q I rx ry h
  obtain ⟨p, xs, i, z, rfl, rfl, hq, he, q⟩ := h
  cases rx
  obtain ⟨t, rfl⟩ := ry
  obtain ⟨its, r, pl, hz⟩ := I.list hq
  obtain ⟨j, h1, h2, h3, h4, h5⟩ := atI_get he
  obtain ⟨w, ew, rw'⟩ := r.get h2
  have hl := r.length
  have hn := line63
  have fin : EP X pins σ Q w s := ⟨z, H, I, rw', q⟩
  by_cases h0 : 0 ≤ i
  · have hj : i.toNat = j := by
      rw [seqIndex_of h0 h5] at h1
      exact Option.some.inj h1
    exact wpAny_getItem_list pl.isList h0 (by omega) (by rw [hj]; simpa using ew) fin
  · have hj : (i + (its.toArray.size : Int)).toNat = j := by
      rw [seqIndex_neg (by omega) h4] at h1
      rw [List.size_toArray, ← hl]
      exact Option.some.inj h1
    exact wpAny_getItem_list_neg pl.isList (by omega) (by rw [List.size_toArray] <;> omega) (by omega) (by rw [hj]; simpa using ew) fin
abbrev qD : Str := "most_dues" ++ ".<locals>." ++ "<lambda>"
def spDues (K : PySem.W.Frag) (Pt : Addr) : Sp := fun vs H Q _ => ∃ (a b : Addr) (ps : List Int) (rs : List (Int × Int)), vs = [.ref a, .ref b] ∧ IntsA H a ps ∧ LsA H b rs ∧ ps.length ≤ 900 ∧ rs.length ≤ 900 ∧ RunIn ps.length rs ∧ TabS H Pt qD ∧
  ∀ H2 T, TbL Pt qD H H2 → ButAt Pt H H2 → Q (.ref T) H2
theorem order_perm (n : Nat) (k : V → PyData) : ∃ os : List Nat, (rngV n).mergeSort (PySem.W.dataLe false k) = os.map (fun i : Nat => V.int (i : Int)) ∧ ∀ i ∈ os, i < n := by
  have hp := List.mergeSort_perm (rngV n) (PySem.W.dataLe false k)
  generalize (rngV n).mergeSort (PySem.W.dataLe false k) = l at hp
  have : ∀ l : List V, (∀ x ∈ l, ∃ i : Nat, i < n ∧ x = V.int (i : Int)) → ∃ os : List Nat, l = os.map (fun i : Nat => V.int (i : Int)) ∧ ∀ i ∈ os, i < n := by
    intro l
    induction l with
    | nil => exact fun _ => ⟨[], rfl, fun _ h => nomatch h⟩
    | cons x l ih =>
      intro h
      obtain ⟨os, e, ho⟩ := ih fun y hy => h y (List.mem_cons_of_mem _ hy)
      obtain ⟨i, hi, rfl⟩ := h x (List.mem_cons_self ..)
      refine ⟨i :: os, by rw [e]; rfl, fun j hj => ?_⟩
      rcases List.mem_cons.mp hj with z | z
      · rw [z]; exact hi
      · exact ho j z
  refine this l fun x hx => ?_
  have := hp.mem_iff.mp hx
  obtain ⟨i, hi, rfl⟩ := List.mem_map.mp this
  exact ⟨i, List.mem_range.mp hi, rfl⟩
def kD (rs : List (Int × Int)) : V → Int
  | .int n => (rs.getD n.toNat (0, 0)).2
  | _ => 0
abbrev sDues : Stmt := topS 3
theorem scDues : FnScope ["prices", "runs", "left", "dues", "at", "first", "last", "due", "place"] ["prices", "runs"] (defScope sDues) := ⟨rfl, rfl, rfl, by decide +kernel, rfl, by decide +kernel, by decide +kernel⟩
section
variable {K : PySem.W.Frag} {mg : Str → Option Value} {P : Program} {w : World} {base : Heap}
theorem ok_Dues {f : Addr} {c Pt : Addr} {oc kV doc pm ct : Value} {od an : Option Addr} {osl : Array (Option Value)}
    (lk : K.lookup f = some ⟨oc, od, .func (PySem.W.fnOf "most_dues" "most_dues" (defArgs sDues) (defBody sDues) (defScope sDues) .none kV doc pm an (.ref c) ct), osl⟩) (hcd : PySem.W.codeIn K (.ref c) "most_dues" = true)
    (TB : LamX.TabB base mg c Pt) (m_list : mg "list" = none) (m_len : mg "len" = none) (m_sorted : mg "sorted" = none) (m_range : mg "range" = none) (m_min : mg "min" = none) :
    FnOk P w K mg base CX0 4 f (PySem.W.fnOf "most_dues" "most_dues" (defArgs sDues) (defBody sDues) (defScope sDues) .none kV doc pm an (.ref c) ct) ["prices", "runs"] (spDues K Pt) := by
  refine fn_of lk hcd scDues (fun vs H Q E h => ?_) (fun A outer s H vs Q E hr h => ?_)
  · obtain ⟨a, b, ps, rs, rfl, _⟩ := h
    rfl
  · obtain ⟨a, b, ps, rs, rfl, hA, hB, hpz, hrz, hr0, hT, q⟩ := h
    refine ⟨_, PSs.nox (pss_cons (ps_set (i := 2) scDues.nd rfl (.inl rfl) (pe_callTy call_list_of (by rfl) m_list (by decide +kernel) (pa_cons (pv 0) pa_nil)))
      (pss_cons (ps_set (i := 3) scDues.nd rfl (.inl rfl) (pe_op op_rep (pe_lst (pa_cons pe_int pa_nil)) (pe_callB call_len_seq (by rfl) m_len PySem.boot_len (pa_cons (pv 1) pa_nil))))
      (pss_cons (ps_for PassesOwn.never rfl (pi_list (pe_sortedL3 TB rfl (by rfl) m_sorted hr (pa_cons (pe_callTy cr_range1 (by rfl) m_range (by decide +kernel) (pa_cons (pe_callB call_len_seq (by rfl) m_len PySem.boot_len (pa_cons (pv 1) pa_nil)) pa_nil)) pa_nil) (by rfl) (lamP_by (sc := defScope sDues) (by decide +kernel)) (fun _ _ _ _ => rfl) (key_at1 (i := 1) (lamP_by (sc := defScope sDues) (by decide +kernel)) rfl rfl rfl (by decide) (by decide) (by decide)))) (pg_name (i := 4) scDues.nd rfl (.inl rfl))
        (pss_cons (ps_asg (pe_ix ix_list (pv 1) (pv 4) (fun _ _ => rfl)) (pg_tup rfl (pgs_cons (pg_name (i := 5) scDues.nd rfl (.inl rfl)) (pgs_cons (pg_name (i := 6) scDues.nd rfl (.inl rfl)) pgs_nil))))
        (pss_cons (ps_set (i := 7) scDues.nd rfl (.inl rfl) (pe_callB (cr_min rfl) (by rfl) m_min (by decide +kernel) (pa_cons (pe_slice sl_list (pv 2) (po_some (pv 5)) (po_some (pe_op op_add (pv 6) pe_int))) pa_nil)))
        (pss_cons (ps_asg (pv 7) (pg_sub (pv 3) (pv 4) set_list))
        (pss_one (ps_for PassesOwn.never rfl (pi_range2 rfl m_range (pa_cons (pv 5) (pa_cons (pe_op op_add (pv 6) pe_int) pa_nil))) (pg_name (i := 8) scDues.nd rfl (.inl rfl))
          (pss_one (ps_augS (pv 2) (pv 8) get_list (pv 7) ip_sub set_list))))))))
      (pss_one (ps_ret (pv 3)))))), ?_⟩
    obtain ⟨ub, eb, pb⟩ := id hB
    have lub : ub.length = rs.length := pb.1
    refine ⟨_, rfl, a, _, rfl, .inl (SqL.of hA), fun L nL => ?_⟩
    have sL := same_upd (o := .lst (ps.map V.int)) nL
    refine ⟨Nat.le_of_ble_eq_true rfl, fun p0 np0 => ⟨_, rfl, b, _, rfl, .inl (SqL.of (same_upd np0 _ _ (sL _ _ eb))), p0, _, _, rfl, rfl, upd_same, by omega, by omega, ?_, fun D nD => ?_⟩⟩
    · show 1 * _ ≤ _
      have e := small1000 (n := (ub.length : Int).toNat) (by omega)
      omega
    have s0 := same_upd (o := .lst [.int 0]) np0
    have e0 : (List.replicate (ub.length : Int).toNat [V.int 0]).flatten = (List.replicate rs.length (0 : Int)).map V.int := by
      rw [List.map_replicate, Int.toNat_natCast, lub]
      generalize rs.length = n
      induction n with
      | zero => rfl
      | succ n ih => rw [List.replicate_succ, List.flatten_cons, ih, List.replicate_succ]; rfl
    rw [e0]
    have sD := same_upd (o := .lst ((List.replicate rs.length (0 : Int)).map V.int)) nD
    have s1 := (sL.trans s0).trans sD
    have eL1 := (s0.trans sD) _ _ (upd_same (H := H) (a := L) (o := .lst (ps.map V.int)))
    have eD1 : upd (upd (upd H L (.lst (ps.map V.int))) p0 (.lst [.int 0])) D (.lst ((List.replicate rs.length (0 : Int)).map V.int)) D = some (.lst ((List.replicate rs.length (0 : Int)).map V.int)) := upd_same
    have nLD : L ≠ D := ne_of_none (s0 _ _ (upd_same (H := H) (a := L) (o := .lst (ps.map V.int)))) nD
    have nD0 : H D = none := (sL.trans s0).free nD
    generalize upd (upd (upd H L (.lst (ps.map V.int))) p0 (.lst [.int 0])) D (.lst ((List.replicate rs.length (0 : Int)).map V.int)) = H1 at *
    refine ⟨_, rfl, b, ub, rfl, .inl (SqL.of (s1 _ _ eb)), (rs.length : Int), by rw [lub], fun R nR => ?_⟩
    have sR := same_upd (o := .rng 0 (rs.length : Int)) nR
    refine ⟨hT.ext (s1.trans sR), R, rs.length, fun x => PyData.int (kD rs x), rfl, upd_same, by omega, ?_, ?_, ?_, ?_, ?_⟩
    · intro d1 h1 d2 h2
      obtain ⟨x1, _, rfl⟩ := List.mem_map.mp h1
      obtain ⟨x2, _, rfl⟩ := List.mem_map.mp h2
      rfl
    · refine .inr fun d1 h1 => ?_
      obtain ⟨x1, _, rfl⟩ := List.mem_map.mp h1
      exact ⟨(fun z => nomatch z), fun _ z => nomatch z⟩
    · intro x _
      show PyData.depth (PyData.int _) ≤ 8
      rw [PyData.depth]
      omega
    · intro x hx H2 tb
      obtain ⟨i, hi, rfl⟩ := List.mem_map.mp hx
      have hi := List.mem_range.mp hi
      obtain ⟨ub', eb', pb'⟩ := ((hB.same s1).same sR).tbl tb
      have er : rs[i]? = some rs[i] := List.getElem?_eq_getElem hi
      obtain ⟨T, g1, g2⟩ := pb'.2 i _ er
      refine ⟨b, T, ub', _, (i : Int), rs[i].2, rfl, rfl, SqL.of eb', atI_nat g1, .inl (.inl g2), atI_nat (j := 1) rfl, ?_⟩
      show PyData.int (rs.getD (i : Int).toNat (0, 0)).2 = _
      rw [Int.toNat_natCast, List.getD_eq_getElem?_getD, er]
      rfl
    · intro H2 p tb bt np
      obtain ⟨os, eo, ho⟩ := order_perm rs.length fun x => PyData.int (kD rs x)
      rw [eo]
      have sp := same_upd (o := .lst (os.map fun i : Nat => V.int (i : Int))) np
      have tb2 := tb.trans (TbL.of tb.1 sp)
      have eL2 := tb2.lst (sR _ _ eL1)
      have eD2 := tb2.lst (sR _ _ eD1)
      have hB2 := ((hB.same s1).same sR).tbl tb2
      have bt0 : ButAt Pt H (upd H2 p (.lst (os.map fun i : Nat => V.int (i : Int)))) := fun b' o nb e => sp _ _ (bt b' o nb (sR _ _ (s1 _ _ e)))
      have tb0 : TbL Pt qD H (upd H2 p (.lst (os.map fun i : Nat => V.int (i : Int)))) := (TbL.of hT (s1.trans sR)).trans tb2
      have epp : upd H2 p (.lst (os.map fun i : Nat => V.int (i : Int))) p = some (.lst (os.map fun i : Nat => V.int (i : Int))) := upd_same
      have npL : p ≠ L := fun z => by rw [z, tb.lst (sR _ _ eL1)] at np; cases np
      have npD : p ≠ D := fun z => by rw [z, tb.lst (sR _ _ eD1)] at np; cases np
      have nbL : b ≠ L := ne_of_none eb nL
      have nbD : b ≠ D := ne_of_none eb nD0
      generalize upd H2 p (.lst (os.map fun i : Nat => V.int (i : Int))) = H3 at *
      obtain ⟨ub3, eb3, pb3⟩ := hB2
      refine ⟨p, rfl, ⟨_, SqL.of epp⟩, for_list (xs := os.map fun i : Nat => V.int (i : Int)) (fun i σ Hx => ∃ (ls ds : List Int) (y4 y5 y6 y7 y8 : Option V), σ = [some (.ref a), some (.ref b), some (.ref L), some (.ref D), y4, y5, y6, y7, y8] ∧ IntsA Hx L ls ∧ ls.length = ps.length ∧ IntsA Hx D ds ∧ ds.length = rs.length ∧ TabS Hx Pt qD ∧ ∀ b' o, b' ≠ L → b' ≠ D → H3 b' = some o → Hx b' = some o) ⟨_, _, _, _, _, _, _, rfl, eL2, rfl, eD2, List.length_replicate .., tb2.1, fun _ _ _ _ e => e⟩ (fun i σ Hx _ hP => ?_) (fun i x σ Hx hx hP => ?_) (fun σ Hx hP => ?_)⟩
      · obtain ⟨ls, ds, y4, y5, y6, y7, y8, rfl, eL, ll, eD, ld, hTx, kp⟩ := hP
        exact SqL.of (kp _ _ npL npD epp)
      · obtain ⟨ls, ds, y4, y5, y6, y7, y8, rfl, eL, ll, eD, ld, hTx, kp⟩ := hP
        rw [List.getElem?_map] at hx
        obtain ⟨k, hk, rfl⟩ := Option.map_eq_some_iff.mp hx
        have lk' : k < rs.length := ho k (List.mem_of_getElem? hk)
        obtain ⟨T, g1, g2⟩ := pb3.2 k _ (List.getElem?_eq_getElem lk')
        obtain ⟨r0, r1, r2⟩ := hr0 rs[k] (List.getElem_mem lk')
        generalize rs[k] = r at g2 r0 r1 r2
        have eT := kp _ _ (ne_of g2 eL2 (fun z => nomatch z)) (ne_of g2 eD2 (fun z => nomatch z)) g2
        obtain ⟨f, hf⟩ := Int.eq_ofNat_of_zero_le r0
        obtain ⟨l, hl⟩ := Int.eq_ofNat_of_zero_le (Int.le_trans r0 r1)
        refine ⟨_, rfl, _, rfl, b, _, _, .ref T, rfl, rfl, SqL.of (kp _ _ nbL nbD eb3), atI_nat g1, ?_⟩
        refine ⟨T, _, rfl, .inl (.inl eT), rfl, _, _, rfl, _, _, rfl, rfl, ?_⟩
        have ecut : cutV (ls.map V.int) (some r.1) (some (r.2 + 1)) = ((ls.drop f).take (l + 1 - f)).map V.int := by
          unfold cutV
          rw [hf, show r.2 + 1 = ((l + 1 : Nat) : Int) by omega, HT.sIx_nat, HT.sIx_nat, List.length_map, Nat.min_eq_left (by omega), Nat.min_eq_left (by omega), List.map_take, List.map_drop]
        refine ⟨_, rfl, _, rfl, r.1, rfl, _, rfl, r.2, 1, rfl, rfl, r.2 + 1, rfl, L, _, rfl, SqL.of eL, fun c' nc => ?_⟩
        rw [ecut]
        have sc := same_upd (o := .lst (((ls.drop f).take (l + 1 - f)).map V.int)) nc
        refine ⟨c', _, rfl, SqL.of upd_same, by rw [List.length_take, List.length_drop]; omega, fun m _ _ => ?_⟩
        have eD4 := sc _ _ eD
        refine ⟨_, rfl, _, rfl, _, rfl, D, _, _, k, rfl, rfl, eD4, by rw [List.length_map]; exact ixN_of (by omega), ?_⟩
        have nLD' := nLD
        refine ⟨_, rfl, _, rfl, _, 1, rfl, rfl, r.1, r.2 + 1, rfl, ⟨by omega, by omega, by omega, by omega⟩, for_range (lo := r.1) (n := (r.2 + 1 - r.1).toNat) (fun j σ Hy => ∃ (ls : List Int) (y8 : Option V), σ = [some (.ref a), some (.ref b), some (.ref L), some (.ref D), some (.int (k : Int)), some (.int r.1), some (.int r.2), some (.int m), y8] ∧ IntsA Hy L ls ∧ ls.length = ps.length ∧ IntsA Hy D (ds.set k m) ∧ TabS Hy Pt qD ∧ ∀ b' o, b' ≠ L → b' ≠ D → H3 b' = some o → Hy b' = some o)
          ⟨ls, _, rfl, ?_, ll, ?_, TabS.upd (hTx.ext sc) eD4, fun b' o n1 n2 e => ?_⟩ (fun j σ Hy hj hP => ?_) (fun σ Hy hP => ?_)⟩
        · show upd _ _ _ _ = _
          rw [upd_ne nLD']
          exact sc _ _ eL
        · show upd _ _ _ _ = _
          rw [upd_same, List.map_set]
        · rw [upd_ne n2]
          exact sc _ _ (kp b' o n1 n2 e)
        · obtain ⟨ls, y8, rfl, eL, ll, eD, hTx, kp⟩ := hP
          have lp : f + j < ls.length := by omega
          obtain ⟨v, ev⟩ : ∃ v, ls[f + j]? = some v := ⟨_, List.getElem?_eq_getElem lp⟩
          have ei : r.1 + (j : Int) = ((f + j : Nat) : Int) := by omega
          refine ⟨_, rfl, _, rfl, L, _, _, .int v, rfl, rfl, SqL.of eL, by rw [ei]; exact IntsA.at ev, _, rfl, _, _, rfl, rfl, L, _, _, f + j, rfl, rfl, eL, by rw [ei, List.length_map]; exact ixN_of lp, ?_⟩
          refine ⟨ls.set (f + j) (v - m), _, rfl, ?_, by rw [List.length_set]; exact ll, ?_, TabS.upd hTx eL, fun b' o n1 n2 e => ?_⟩
          · show upd _ _ _ _ = _
            rw [upd_same, List.map_set]
          · show upd _ _ _ _ = _
            rw [upd_ne (Ne.symm nLD')]
            exact eD
          · rw [upd_ne n1]
            exact kp b' o n1 n2 e
        · obtain ⟨ls, y8, rfl, eL, ll, eD, hTx, kp⟩ := hP
          exact ⟨ls, _, _, _, _, _, _, rfl, eL, ll, eD, by rw [List.length_set]; exact ld, hTx, kp⟩
      · obtain ⟨ls, ds, y4, y5, y6, y7, y8, rfl, eL, ll, eD, ld, hTx, kp⟩ := hP
        refine ⟨_, rfl, q Hx D ⟨hTx, fun b' o e nt => kp b' o (ne_of_none e nL) (ne_of_none e nD0) (tb0.2 b' o e nt)⟩ fun b' o nb e => kp b' o (ne_of_none e nL) (ne_of_none e nD0) (bt0 b' o nb e)⟩
end

/-! ### a generator expression over a list or a tuple, one name -/
namespace GL
open PySem PySem.Spec PyProof.Rows L2 GxR
section
variable {X : Cx} {s : Shared} {H : Hp} {σ : L2.St} {pins : List (Addr × Obj)}
def BegunL (X : Cx) (s : Shared) (P : Addr) (its : List Value) (o : Obj) : Prop :=
  ∃ (a : Addr) (At : Nat → Heap → Prop), a < s.heap.objs.size ∧ a ≠ P ∧
    (∀ A' : Around, A'.handled = none → Walks X.prog X.w A' s.heap.objs.size [s.heap.objs.size, a] [s.heap.objs.size] its.toArray.size (fun i v => its.toArray[i]? = some v) At) ∧ At 0 (s.heap.push o)
theorem begin_list {a P : Addr} {vs : List V} {tb : Array Value} {Q' : Value → Shared → Prop} (I : Inv X pins σ H s) (hS : SqL X.K H a vs ∨ SqT X.K H a vs) (hP : H P = some (.tbl tb))
    (fin : ∀ its o, Vals vs its → o.isFreed = false → BegunL X s P its o → Q' (.ref s.heap.objs.size) { s with heap := s.heap.push o }) : wpAny (model X.prog X.w) X.A (pyIter (.ref a)) Q' X.xe s := by
  have hPo : s.heap.get? P = some { cls := .none, data := .fields tb } := I.hok P _ hP
  have notP : ∀ (b : Addr) (o : Obj) (xs : Array Value) (n : Nat), s.heap.get? b = some o → o.data = .seq xs n → b ≠ P := fun b o xs n e d z => by
    rw [z, hPo] at e
    rw [← Option.some.inj e] at d
    cases d
  rcases hS with hS | hS
  · obtain ⟨its, r, hl, _⟩ := I.list hS
    obtain ⟨o, e, c, n, d⟩ := hl.isList
    exact wpAny_pyIter_list hl.isList (fin its _ r rfl ⟨a, _, Heap.lt_size e, notP _ _ _ _ e d, (fun A' hA => Walks.list hA _ a (Nat.ne_of_lt (Heap.lt_size e)) its.toArray), ⟨_, Heap.get?_push_size _ rfl, rfl, rfl⟩, ⟨o, Heap.get?_push_of_some _ e, c, n, d⟩⟩)
  · obtain ⟨its, r, ⟨o, e, c, n, d⟩, _⟩ := I.tuple hS
    exact wpAny_pyIter_tuple (items := its.toArray) ⟨o, e, c, n, d⟩ (fin its _ r rfl ⟨a, _, Heap.lt_size e, notP _ _ _ _ e d, (fun A' hA => Walks.tuple hA _ a (Nat.ne_of_lt (Heap.lt_size e)) its.toArray), ⟨_, Heap.get?_push_size _ rfl, rfl, rfl⟩, ⟨o, Heap.get?_push_of_some _ e, c, n, d⟩⟩)
/-- the element at an item: what it gives, wherever the expression runs later -/
def EltL (X : Cx) (s₁ : Shared) (P : Addr) (sc : Scope) (x : Str) (elt : Expr) (v : Value) (Gives : Value → Prop) : Prop :=
  ∀ (L : Addr) (code : Value) (A' : Around) (E' : Value → Shared → Prop) (s₂ : Shared) (m : Str → Option Value), A'.handled = none →
    (∀ b o, b ≠ P → s₁.heap.get? b = some o → s₂.heap.get? b = some o) → s₂.heap.Ns L m → m x = some v →
    wpAny (model X.prog X.w) A' (eval elt (genEnv sc (cloFrom X.env.cells sc.names []) L code builtinsNs X.env)) (fun y s₃ => Gives y ∧ Keeps s₂ s₃) E' s₂
/-- the generator at g, before its first item -/
def FreshL (X : Cx) (pins : List (Addr × Obj)) (σ : L2.St) (H₁ : Hp) (P : Addr) (n : Nat) (Gives : Nat → Value → Prop) (g : Addr) (s₅ : Shared) : Prop :=
  ∃ (foot writes : List Addr) (Gens : Array GenState → Array GenState → Prop) (Item : Nat → Value → Prop) (At : Nat → Shared → Prop),
    (WalksS X.prog X.w X.A.in1 g foot writes Gens n Item At ∧ At 0 s₅ ∧ ∀ b ∈ foot, b < s₅.heap.objs.size) ∧
    (∀ j v, Item j v → j < n ∧ Gives j v) ∧ ∀ s₆, Moved writes Gens s₅ s₆ → ∃ H₂, Tabbed P H₁ H₂ ∧ Inv X pins σ H₂ s₆
theorem gen_list {α : Type} {c P : Addr} {elt iter : Expr} {x : Str} {px gpos : Pos} {sc : Scope} {te : TE} {k : Nat} {Q' : Value → Shared → Prop} {Want : α → List V → Hp → Prop} {Gives : α → Nat → Value → Prop}
    (room : Room k X.A) (TB : GxR.TabB X.base X.mg c P) (hcode : X.env.code = .ref c) (own : GenS X.env sc x) (walked : PE X iter te) (plain : ∀ v, genFold iter X.env v = pure v) (I : Inv X pins σ H s)
    (each : ∀ s₁ H₁ z vs, Inv X pins σ H₁ s₁ → TabG H₁ P → Want z vs H₁ → ∀ (i : Nat) y v, vs[i]? = some y → RelV y v → EltL X s₁ P sc x elt v (Gives z i))
    (h : te σ H fun v H₁ => ∃ (a : Addr) (vs : List V) (z : α), v = .ref a ∧ (SqL X.K H₁ a vs ∨ SqT X.K H₁ a vs) ∧ TabG H₁ P ∧ Want z vs H₁)
    (fin : ∀ z vs H₁ g s₅, Want z vs H₁ → FreshL X pins σ H₁ P vs.length (Gives z) g s₅ → Q' (.ref g) s₅) :
    wpAny (model X.prog X.w) X.A (eval (.GeneratorExp elt [⟨.Name x px, iter, [], 0⟩] sc gpos) X.env) Q' X.xe s := by
  have deep : X.A.depth < recursionLimit := by have := room.dp; omega
  refine wpAny_GeneratorExp_walksQ room.hd own.co (closure_ok own.free) own.cell own.dot own.loc own.kind deep (thn (walked.run pins s σ H _ I h) fun u s₁ had => ?_) plain
  obtain ⟨_, H₁, I₁, rel, a, vs, zz, rfl, hS, ⟨tb, hP, ok⟩, want⟩ := had
  obtain rfl : u = Value.ref a := rel
  have tabAt : s₁.heap.get? P = some { cls := .none, data := .fields tb } := I₁.hok P _ hP
  refine begin_list I₁ hS hP fun its o rv hfo bg => ?_
  obtain ⟨a', At, alt, anP, W, at0⟩ := bg
  have newP : s₁.heap.objs.size ≠ P := fun z => Nat.lt_irrefl _ (Nat.lt_of_lt_of_eq (Heap.lt_size tabAt) z)
  have statics : cStatics < s₁.heap.objs.size ∧ cStatics ≠ P := by
    obtain ⟨_, ns, _⟩ := I₁.nolimit
    refine ⟨ns.lt, fun z => ?_⟩
    obtain ⟨ob, _, _, e, d, _⟩ := ns
    rw [z, tabAt] at e
    rw [← Option.some.inj e] at d
    cases d
  have quiet : (s₁.heap.push o).NoLimit := I₁.nolimit.push o
  refine ⟨quiet, GP.code_there hcode (TB.code.keeps fun b u e => Heap.get?_push_of_some _ (I₁.bk b u e)) (Heap.get?_push_of_some _ tabAt) ok fun code h₃ tk more ext le tab₃ ok₃ => ?_⟩
  rw [Heap.size_push] at le
  have stays : ∀ b u, b ≠ P → s₁.heap.get? b = some u → h₃.get? b = some u := fun b u hb e => ext b u hb (Heap.get?_push_of_some _ e)
  obtain ⟨bm, ob, f1, f2, f3, f4, f5, f6, f7, f8⟩ := TB.bm
  have globals : Heap.Ns h₃ X.env.globals X.mg := by
    rw [I₁.ok.glob]
    exact ((I₁.mod.glob.keeps I₁.bk).push o).extBut ext TB.gP
  refine wpAny_builtinsFor (m := X.mg) globals f1 f2 (stays bm ob f4 (I₁.bk bm ob f5)) f6 f7 f8 ?_
  have later : ∀ b u, s₁.heap.get? b = some u → b ∉ [h₃.objs.size, s₁.heap.objs.size] := fun b u e z => by
    have lt := Heap.lt_size e
    rcases List.mem_cons.mp z with z' | z'
    · exact Nat.lt_irrefl _ (Nat.lt_of_lt_of_le (z' ▸ lt) (Nat.le_of_succ_le le))
    · exact Nat.lt_irrefl _ (List.mem_singleton.mp z' ▸ lt)
  have ln : its.toArray.size = vs.length := by rw [List.size_toArray, ← rv.length]
  refine ⟨_, _, _, _, _, _, fun _ => true, fun i y => i < vs.length ∧ Gives zz i y, rfl, W, ?_, fun b hb => ?_, quiet.extBut ext statics.2, fun z => ?_, fun href kept => ⟨?_, ?_⟩, ?_⟩
  · refine (W X.A room.hd).frame _ _ _ at0 fun b hb u e => ext b u (fun z => ?_) e
    rcases List.mem_cons.mp hb with q | q
    · exact newP (q.symm.trans z)
    · exact anP ((List.mem_singleton.mp q).symm.trans z)
  · rcases List.mem_cons.mp hb with q | q
    · rw [q]; exact Nat.lt_of_succ_le le
    · rw [List.mem_singleton.mp q]; exact Nat.lt_trans alt (Nat.lt_of_succ_le le)
  · exact Nat.ne_of_lt statics.1 (List.mem_singleton.mp z)
  · intro A' E' i v s₂ m _ _ _ _ _
    rw [List.forIn_nil]
    exact wpAny_pure ⟨rfl, GxR.keeps_refl _⟩
  · intro A' E' i v s₂ m calm hx _ ns ea still
    have hv : its[i]? = some v := by simpa using hx
    have hi : i < vs.length := by rw [rv.length]; exact (List.getElem?_eq_some_iff.mp hv).1
    obtain ⟨v', e1, r1⟩ := rv.get (List.getElem?_eq_getElem hi)
    rw [hv] at e1
    cases e1
    refine wpAny_mono (each s₁ H₁ zz vs I₁ ⟨tb, hP, ok⟩ want i _ v (List.getElem?_eq_getElem hi) r1 _ code A' E' s₂ m calm (fun b u hb q => ?_) ns ea) (fun y s₃ r => ⟨⟨hi, r.1⟩, r.2⟩) fun _ _ q => q
    have q3 := stays b u hb q
    exact still b (List.mem_range.mpr (Heap.lt_size q3)) (fun z => later b u q (List.mem_cons_of_mem _ z)) u (kept b u q3)
  · intro g h₅ tk₅ gs bare above size kept W₅ at₅
    rw [GxR.passing_true, List.length_range] at W₅
    refine fin zz vs H₁ g _ want (ln ▸ (?_ : FreshL X pins σ H₁ P its.toArray.size (Gives zz) g _))
    refine ⟨_, _, _, _, _, ⟨W₅.in4_1, at₅, fun b hb => ?_⟩, fun j v hy => ?_, fun s₆ mv => ?_⟩
    · show b < h₅.objs.size
      rw [size]
      rcases List.mem_cons.mp hb with q | q
      · rw [q]; exact Nat.lt_succ_self _
      · rcases List.mem_cons.mp q with q | q
        · rw [q]; exact Nat.lt_succ_of_lt above
        · exact Nat.lt_succ_of_lt (Nat.lt_trans (List.mem_range.mp q) above)
    · obtain ⟨i, ei, hg⟩ := hy
      obtain ⟨lt, e2⟩ := List.getElem?_eq_some_iff.mp ei
      rw [List.getElem_range] at e2
      subst e2
      exact ⟨by rw [ln]; exact hg.1, hg.2⟩
    · have all : ∀ b u, b ≠ P → s₁.heap.get? b = some u → s₆.heap.get? b = some u := fun b u hb e => mv.heap b u (later b u e) (kept b u (stays b u hb e))
      have tab₆ := mv.heap P _ (later P _ tabAt) (kept P _ tab₃)
      have J := GxR.inv_tab (more := more) (d' := s₆.drawn) (t' := s₆.toks) I₁ hP all tab₆ (AllBare.movedS (I₁.bare.push bare) mv)
      rw [GxR.sh_eta s₁ s₆ mv.os] at J
      exact ⟨_, ⟨⟨tb ++ more, upd_same, ok₃⟩, fun b hb => upd_ne hb⟩, J⟩
/-- sum(e for x in list): each item's number is g of it -/
def tSumL (K : PySem.W.Frag) (P : Addr) (Cap : L2.St → Hp → List V → (Nat → Int) → Prop) (te : TE) : TE := fun σ H Q => te σ H fun v H₁ => ∃ (a : Addr) (vs : List V) (g : Nat → Int), v = .ref a ∧ (SqL K H₁ a vs ∨ SqT K H₁ a vs) ∧ TabG H₁ P ∧ Cap σ H₁ vs g ∧ ∀ H₂, Tabbed P H₁ H₂ → Q (.int (preSum g vs.length)) H₂
theorem pe_sumL {c P : Addr} {elt iter : Expr} {x : Str} {px p pos gpos : Pos} {sc : Scope} {te : TE} {k : Nat} {Cap : L2.St → Hp → List V → (Nat → Int) → Prop}
    (room : Room k X.A) (glob : Gl X "sum") (free : X.mg "sum" = none) (TB : GxR.TabB X.base X.mg c P) (hcode : X.env.code = .ref c) (own : GenS X.env sc x) (walked : PE X iter te)
    (each : ∀ pins σ s₁ H₁ vs g, Inv X pins σ H₁ s₁ → TabG H₁ P → Cap σ H₁ vs g → ∀ (i : Nat) y v, vs[i]? = some y → RelV y v → EltL X s₁ P sc x elt v (fun u => ∃ t, u = .int (g i) t)) (plain : ∀ v, genFold iter X.env v = pure v)
    (one : starEach [.GeneratorExp elt [⟨.Name x px, iter, [], 0⟩] sc gpos] X.env = [(false, eval (.GeneratorExp elt [⟨.Name x px, iter, [], 0⟩] sc gpos) X.env)] := by rfl) :
    PE X (.Call (.Name "sum" p) [.GeneratorExp elt [⟨.Name x px, iter, [], 0⟩] sc gpos] [] pos) (tSumL X.K P Cap te) := by
  constructor
  intro pins s σ H Q I h
  refine wpAny_Call_Name_kw (ld_blt I glob free (show bootBuiltins "sum" = some (.builtin "sum") by decide +kernel) (callWith_builtin1 ?_ one (by rfl)) (by decide) (by decide))
  rw [one]
  refine Calls.spliced_cons (gen_list (α := Nat → Int) (Want := fun g vs H₁ => Cap σ H₁ vs g ∧ ∀ H₂, Tabbed P H₁ H₂ → Q (.int (preSum g vs.length)) H₂) (Gives := fun g i u => ∃ t, u = .int (g i) t) room TB hcode own walked plain I (fun s₁ H₁ g vs J tg w i y v e r => each pins σ s₁ H₁ vs g J tg w.1 i y v e r) h fun g vs H₁ gen s₅ want fresh => Calls.spliced_nil ?_)
  obtain ⟨foot, writes, Gens, Item, At, ⟨W, a0, low⟩, items, behind⟩ := fresh
  refine call_sum_walkAnyS (W.self 0 _ _ _ a0 ⟨gen, foot, writes, Gens, vs.length, Item, At, g, rfl, W, a0, low, fun i v it => (items i v it).2, fun s₆ t mv => ?_⟩)
  obtain ⟨H₂, tabbed, J⟩ := behind s₆ mv
  exact ⟨.int (preSum g vs.length), H₂, J, ⟨t, rfl⟩, want.2 H₂ tabbed⟩
theorem preSum_map (g : Nat → Int) (ns : List Int) (h : ∀ (i : Nat) n, ns[i]? = some n → g i = n) : ∀ n, n ≤ ns.length → preSum g n = (ns.take n).sum
  | 0, _ => rfl
  | n + 1, hn => by
    have e : ns[n]? = some ns[n] := List.getElem?_eq_getElem hn
    show preSum g n + g n = _
    rw [preSum_map g ns h n (by omega), h n _ e, List.take_add_one, e, List.sum_append]
    show _ = _ + (ns[n] + 0)
    rw [Int.add_zero]
/-- y[x], y a list that is captured at slot i, x a whole number -/
def CapIx (K : PySem.W.Frag) (i : Nat) : L2.St → Hp → List V → (Nat → Int) → Prop := fun σ H vs g => ∃ (l : Addr) (ls : List V), σ[i]? = some (some (.ref l)) ∧ SqL K H l ls ∧ ∀ (j : Nat) y, vs[j]? = some y → ∃ n : Int, y = .int n ∧ atI ls n = some (.int (g j))
theorem elt_ix {i : Nat} {x y : Str} {P : Addr} {sc : Scope} {p1 p2 p3 : Pos} (kf : sc.kind = .function) (lx : sc.names.lookup x = some .local) (ly : sc.names.lookup y = some .free) (hN : X.N[i]? = some y) (hc : X.env.scope.names.lookup y = some .cell)
    (hd : (x == ("__debug__" : Str)) = false) (hd2 : (y == ("__debug__" : Str)) = false) (hcd : (y == ("__classdict__" : Str)) = false) {vs : List V} {g : Nat → Int} (I : Inv X pins σ H s) (tg : TabG H P) (cap : CapIx X.K i σ H vs g) (j : Nat) (z : V) (v : Value) (e : vs[j]? = some z) (r : RelV z v) :
    EltL X s P sc x (.Subscript (.Name y p1) (.Name x p2) p3) v (fun u => ∃ t, u = .int (g j) t) := by
  intro L code A' E' s₂ m calm kept ns ea
  obtain ⟨l, ls, hv, hS, he⟩ := cap
  obtain ⟨n, rfl, hat⟩ := he j z e
  obtain ⟨tn, rfl⟩ := r
  obtain ⟨tb, hP, _⟩ := tg
  have tabAt : s.heap.get? P = some { cls := .none, data := .fields tb } := I.hok P _ hP
  obtain ⟨m0, hn0, look⟩ := I.loc
  obtain ⟨u, ru, lk⟩ := look i y _ hN hv (.inr (.inl hc))
  cases ru
  rcases lk with ⟨z, _⟩ | ⟨_, c, ec, o, ho, hdt⟩
  · rw [show X.env.kindOf y = some .cell from hc] at z
    cases z
  have cP : c ≠ P := fun z => by
    rw [z, tabAt] at ho
    rw [← Option.some.inj ho] at hdt
    cases hdt
  obtain ⟨c2, h2⟩ := mem_lookup (cloFrom_has (cells := X.env.cells) (acc := []) (PySem.mem_of_lookup ly))
  have w2 : c2 = c := by
    rcases cloFrom_mem (PySem.mem_of_lookup h2) with hm | ⟨_, w⟩
    · cases hm
    · rw [w, ec]; rfl
  subst w2
  obtain ⟨its, rv, pl, hz⟩ := I.list hS
  obtain ⟨u0, a0, t0, rfl⟩ := vals_at rv hat
  obtain ⟨ol, el, cl, nl, dl⟩ := pl.isList
  have lP : l ≠ P := fun z => by
    rw [z, tabAt] at el
    rw [← Option.some.inj el] at dl
    cases dl
  have pl2 : PlainL s₂.heap l its.toArray := pl.at fun o e => kept l o lP e
  have cell2 : s₂.heap.IsCell c2 (some (.ref l)) := ⟨o, kept c2 o cP ho, hdt⟩
  have nx : TK.Gv X.prog X.w A' (genEnv sc (cloFrom X.env.cells sc.names []) L code builtinsNs X.env) (.Name x p2) s₂ (fun u => ∃ t, u = .int n t) := fun tk0 Q E h => (TK.gv_loc (pos := p2) kf lx ns ea hd : TK.Gv X.prog X.w A' (genEnv sc (cloFrom X.env.cells sc.names []) L code builtinsNs X.env) (.Name x p2) s₂ (fun u => u = .int n tn)) tk0 Q E fun u tk eu => h u tk ⟨tn, eu⟩
  have ny : TK.Gv X.prog X.w A' (genEnv sc (cloFrom X.env.cells sc.names []) L code builtinsNs X.env) (.Name y p1) s₂ (fun u => u = .ref l) := TK.gv_free kf ly h2 cell2 hd2 hcd
  refine TK.gv_ixL ny nx pl2 (by rw [← rv.length]; exact hz) a0 (fun _ _ => rfl) s₂.toks _ _ fun u tk eu => ⟨⟨t0, eu⟩, GxR.keeps_tok _ _⟩
end
end GL

open LamX
/-! ### least_cost -/
theorem GL.a_free {sc : Scope} {env : Env} {y : Str} {c : Addr} (h : ∀ z ∈ sc.names, z.2 = NameKind.free → z.1 = y) (e : env.cells.lookup y = some c) : ∀ z ∈ sc.names, z.2 = NameKind.free → ∃ c, env.cells.lookup z.1 = some c := fun z hz hf => ⟨c, by rw [h z hz hf]; exact e⟩
def NoTab (H H2 : Hp) : Prop := ∀ b o, H b = some o → (∀ ps, o ≠ .tbl ps) → H2 b = some o
theorem NoTab.trans {H H1 H2 : Hp} (a : NoTab H H1) (b : NoTab H1 H2) : NoTab H H2 := fun x o e n => b x o (a x o e n) n
theorem NoTab.of {H H1 : Hp} (s : Same H H1) : NoTab H H1 := fun b o e _ => s b o e
theorem NoTab.tab {H H1 : Hp} {P : Addr} (t : GxR.TabG H P) (s : GxR.Tabbed P H H1) : NoTab H H1 := fun b o e n => by
  obtain ⟨ps, hP, _⟩ := t
  rw [s.2 b fun z => by rw [z, hP] at e; exact n ps (Option.some.inj e).symm]
  exact e
theorem NoTab.ints {H H1 : Hp} {a : Addr} {ns : List Int} (n : NoTab H H1) (h : IntsA H a ns) : IntsA H1 a ns := n _ _ h fun _ z => nomatch z
theorem NoTab.prs {H H1 : Hp} {a : Addr} {ps : List (Int × Int)} (n : NoTab H H1) (h : LsA H a ps) : LsA H1 a ps := by
  obtain ⟨us, e, p⟩ := h
  exact ⟨us, n _ _ e (fun _ z => nomatch z), p.1, fun i r er => let ⟨x, h1, h2⟩ := p.2 i r er; ⟨x, h1, n _ _ h2 fun _ z => nomatch z⟩⟩
def spCost (K : PySem.W.Frag) (Pc Pt : Addr) : Sp := fun vs H Q _ => ∃ (a b : Addr) (ps : List Int) (rs : List (Int × Int)), vs = [.ref a, .ref b] ∧ IntsA H a ps ∧ LsA H b rs ∧ ps.length ≤ 900 ∧ rs.length ≤ 900 ∧ RunIn ps.length rs ∧ Pc ≠ Pt ∧ GxR.TabG H Pc ∧ TabS H Pt qD ∧
  ∀ H2 T L D pre, GxR.TabG H2 Pc → TabS H2 Pt qD → NoTab H H2 → H2 T = some (.tup [.int (costF (prF ps) pre), .ref L, .ref D]) → Way rs ((ps.length : Int) + 1) pre → (∀ l', Way rs ((ps.length : Int) + 1) l' → costF (prF ps) pre ≤ costF (prF ps) l') → Q (.ref T) H2
theorem Way.nn {rs : List (Int × Int)} : ∀ {l : List Int} {s : Int}, Way rs s l → ∀ x ∈ l, 0 ≤ x
  | [], _, _, x, hx => nomatch hx
  | y :: l, s, h, x, hx => by
    rcases List.mem_cons.mp hx with z | z
    · rw [z]; exact h.2.1
    · exact Way.nn h.2.2.2 x z
theorem prF_at {ps : List Int} {x : Int} (h0 : 0 ≤ x) (h1 : x < ps.length) : atI (ps.map V.int) x = some (.int (prF ps x)) := by
  obtain ⟨k, rfl⟩ := Int.eq_ofNat_of_zero_le h0
  have lk : k < ps.length := by omega
  have e : prF ps (k : Int) = ps[k] := cF_at (by rw [List.getElem?_append_left lk]; exact List.getElem?_eq_getElem lk)
  rw [e]
  exact IntsA.at (List.getElem?_eq_getElem lk)
abbrev sCost : Stmt := topS 4
theorem scCost : FnScope ["prices", "runs", "places"] ["prices", "runs"] (defScope sCost) := ⟨rfl, rfl, rfl, by decide +kernel, rfl, by decide +kernel, by decide +kernel⟩
section
variable {K : PySem.W.Frag} {mg : Str → Option Value} {P : Program} {w : World} {base : Heap}
theorem ok_Cost {f : Addr} {c Pc Pt : Addr} {oc kV doc pm ct : Value} {od an : Option Addr} {osl : Array (Option Value)}
    (lk : K.lookup f = some ⟨oc, od, .func (PySem.W.fnOf "least_cost" "least_cost" (defArgs sCost) (defBody sCost) (defScope sCost) .none kV doc pm an (.ref c) ct), osl⟩) (hcd : PySem.W.codeIn K (.ref c) "least_cost" = true)
    (TG : GxR.TabB base mg c Pc) (C_least_places : Cal P w K mg base 2 "least_places" ["prices", "runs"] (spPlaces K)) (C_most_dues : Cal P w K mg base 4 "most_dues" ["prices", "runs"] (spDues K Pt)) (m_sum : mg "sum" = none) :
    FnOk P w K mg base CX0 5 f (PySem.W.fnOf "least_cost" "least_cost" (defArgs sCost) (defBody sCost) (defScope sCost) .none kV doc pm an (.ref c) ct) ["prices", "runs"] (spCost K Pc Pt) := by
  refine fn_of lk hcd scCost (fun vs H Q E h => ?_) (fun A outer s H vs Q E hr h => ?_)
  · obtain ⟨a, b, ps, rs, rfl, _⟩ := h
    rfl
  · obtain ⟨a, b, ps, rs, rfl, hA, hB, hpz, hrz, hr0, hne, hG, hT, q⟩ := h
    refine ⟨_, PSs.nox (pss_cons (ps_set (i := 2) scCost.nd rfl (.inl rfl) (pe_own C_least_places (hr.mono (show 2 ≤ 4 by decide)) (by rfl) (pa_cons (pv 0) (pa_cons (pv 1) pa_nil))))
      (pss_one (ps_ret (pe_tup (pa_cons (GL.pe_sumL hr (by rfl) m_sum TG rfl ⟨rfl, rfl, by decide +kernel, by decide +kernel, by decide +kernel, GL.a_free (y := "prices") (c := _) (by decide +kernel) rfl⟩ (pv 2) (fun pins σ s₁ H₁ vs g I tg cap i y v e r => GL.elt_ix (i := 0) rfl (by decide +kernel) (by decide +kernel) rfl rfl (by decide) (by decide) (by decide) I tg cap i y v e r) (fun _ => rfl)) (pa_cons (pv 2) (pa_cons (pe_own C_most_dues hr (by rfl) (pa_cons (pv 0) (pa_cons (pv 1) pa_nil))) pa_nil))))))), ?_⟩
    refine ⟨_, rfl, _, rfl, a, b, ps, rs, rfl, hA, hB, hpz, hr0, fun L H1 pre nL s1 eL hW hM => ?_⟩
    have n1 := NoTab.of s1
    have hG1 : GxR.TabG H1 Pc := by
      obtain ⟨tb, h1, h2⟩ := hG
      exact ⟨tb, s1 _ _ h1, h2⟩
    have hT1 := hT.ext s1
    refine ⟨_, rfl, L, _, fun j => (pre.reverse.map (prF ps)).getD j 0, rfl, .inl (SqL.of eL), hG1, ⟨a, _, rfl, SqL.of (s1 _ _ hA), fun j y e => ?_⟩, fun H2 tb2 => ?_⟩
    · rw [List.getElem?_map] at e
      obtain ⟨n, en, rfl⟩ := Option.map_eq_some_iff.mp e
      have hm : n ∈ pre := List.mem_reverse.mp (List.mem_of_getElem? en)
      refine ⟨n, rfl, ?_⟩
      show atI _ _ = some (V.int ((pre.reverse.map (prF ps)).getD j 0))
      rw [List.getD_eq_getElem?_getD, List.getElem?_map, en]
      have := hW.fall.lt n hm
      exact prF_at (hW.nn n hm) (by omega)
    · have n2 := NoTab.tab hG1 tb2
      have hT2 : TabS H2 Pt qD := by
        obtain ⟨tb, hP, h2, h3⟩ := hT1
        refine ⟨tb, by rw [tb2.2 _ (Ne.symm hne)]; exact hP, h2, fun pos cv hc => ?_⟩
        obtain ⟨c', e1, e2⟩ := h3 pos cv hc
        exact ⟨c', e1, n2 _ _ e2 fun _ z => by unfold CodeO at z; cases z⟩
      have es : preSum (fun j => (pre.reverse.map (prF ps)).getD j 0) (pre.reverse.map V.int).length = costF (prF ps) pre := by
        rw [List.length_map, GL.preSum_map _ (pre.reverse.map (prF ps)) (fun i n e => by rw [List.getD_eq_getElem?_getD, e]; rfl) _ (by rw [List.length_map]; exact Nat.le_refl _), ← List.length_map (f := prF ps), List.take_length]
        exact costF_rev _ _
      rw [es]
      have nA := n1.trans n2
      refine ⟨_, rfl, _, rfl, _, rfl, a, b, ps, rs, rfl, nA.ints hA, nA.prs hB, hpz, hrz, hr0, hT2, fun H3 D tb3 bt3 => ⟨(by show 3 ≤ sizeLine; decide), fun T nT => ?_⟩⟩
      have sT := same_upd (o := .tup [.int (costF (prF ps) pre), .ref L, .ref D]) nT
      refine q _ T L D pre ?_ (tb3.1.ext sT) ((nA.trans tb3.2).trans (NoTab.of sT)) upd_same hW hM
      obtain ⟨tb, h1, h2⟩ := tb2.1
      exact ⟨tb, sT _ _ (bt3 _ _ hne h1), h2⟩
end

/-! ### great numbers -/
abbrev sGreat : Stmt := topS 8
theorem scGreat : FnScope ["_law_state", "_law_parts", "_law_turn"] ["_law_state"] (defScope sGreat) := ⟨rfl, rfl, rfl, by decide +kernel, rfl, by decide +kernel, by decide +kernel⟩
def spGreat : Sp := fun vs H Q _ => ∃ (d c : Addr) (t : Int), vs = [.ref d] ∧ StAt H d c t ∧ t + 3 < 2 ^ 60 ∧ ∀ r H', 0 ≤ r → r < 10 ^ 30 → StAt H' d c (t + 3) → Kp d c H H' → Q (.int r) H'
section
variable {K : PySem.W.Frag} {mg : Str → Option Value} {P : Program} {w : World} {base : Heap}
theorem ok_great {f : Addr} {fd : FuncData} (F : Fun K "_law_great" "_law_great" sGreat f fd) (CT : Cal P w K mg base 1 "_law_take" ["_law_state", "_law_many"] spTake) (mr : mg "range" = none) : FnOk P w K mg base CX0 2 f fd ["_law_state"] spGreat := by
  refine F.ok scGreat (fun vs H Q E h => ?_) (fun cdv A outer s H vs Q E hr h => ?_)
  · obtain ⟨d, c, t, rfl, _⟩ := h
    rfl
  · obtain ⟨d, c, t, rfl, hS, ht, q⟩ := h
    refine ⟨_, pss_cons (ps_setLc (i := 1) (own := [("_law_turn", 2)]) (g := gName 2) (tt := tYes) (te := tCall spTake [] E0 (tCons (tVar 0) (tCons (tOp (rI CPow fun i j => .int (i ^ j.toNat)) (tC (.int 10)) (tC (.int 10))) tNil))) rfl scGreat.nd rfl rfl rfl (pi_range1 rfl mr (pa_cons pe_int pa_nil))
            (blkOk_by (own := [("_law_turn", 2)]) (N := ["_law_state", "_law_parts", "_law_turn"]) (sc := defScope sGreat) (by decide +kernel)) (fun _ _ _ _ _ => pg_name (i := 2) scGreat.nd rfl (.inl rfl)) (fun _ _ _ _ _ => pts_nil) (fun _ _ _ _ _ => pe_own CT hr (by rfl) (pa_cons (pv 0) (pa_cons (pe_op op_pow pe_int pe_int) pa_nil))))
      (pss_one (ps_ret (pe_op op_add (pe_op op_add (pe_op op_mul (pe_ix ix_list (pv 1) pe_int (fun _ _ => rfl)) (pe_op op_pow pe_int pe_int)) (pe_op op_mul (pe_ix ix_list (pv 1) pe_int (fun _ _ => rfl)) (pe_op op_pow pe_int pe_int))) (pe_ix ix_list (pv 1) pe_int (fun _ _ => rfl))))), ?_⟩
    refine ⟨3, rfl, by decide, by decide, fun D nD => lc_range (n := 3) (fun j H' => ∃ ns : List Int, H' D = some (.lst (ns.map V.int)) ∧ ns.length = j ∧ (∀ x ∈ ns, 0 ≤ x ∧ x < 10 ^ 10) ∧ StAt H' d c (t + j) ∧ Kp d c H H') ⟨[], upd_same, rfl, (fun _ z => nomatch z), (by show StAt _ d c (t + 0); rw [Int.add_zero]; exact hS.same (same_upd nD)), Kp.same d c (same_upd nD)⟩ (fun j H' hj hP => ?_) (fun H1 hP => ?_)⟩
    · obtain ⟨ns, eD, hl, hns, hS', k'⟩ := hP
      have offD := hS.off nD
      refine ⟨rfl, _, rfl, 10, 10, rfl, rfl, ⟨by decide, by decide, by decide⟩, d, c, t + j, 10 ^ 10, rfl, hS', by omega, by decide, by decide, fun r H2 r0 r1 hS2 k2 => ?_⟩
      refine ⟨_, k2 _ _ offD.1 offD.2 eD, small1000 (by rw [List.length_map]; omega), ns ++ [r], by rw [upd_same, List.map_append]; rfl, by rw [List.length_append, hl]; rfl, fun x hx => ?_, ?_, fun b o b1 b2 e => ?_⟩
      · rcases List.mem_append.mp hx with z | z
        · exact hns x z
        · rw [List.mem_singleton.mp z]; exact ⟨r0, r1⟩
      · have ej : t + ((j + 1 : Nat) : Int) = t + (j : Int) + 1 := by omega
        rw [ej]
        exact hS2.upd offD.1 offD.2
      · rw [upd_ne (ne_of_none e nD)]
        exact k2 b o b1 b2 (k' b o b1 b2 e)
    · obtain ⟨ns, eD, hl, hns, hS1, k1⟩ := hP
      match ns, hl with
      | [x, y, z], _ =>
        obtain ⟨x0, x1⟩ := hns x (by simp)
        obtain ⟨y0, y1⟩ := hns y (by simp)
        obtain ⟨z0, z1⟩ := hns z (by simp)
        refine ⟨_, rfl, D, _, 0, .int x, rfl, rfl, SqL.of eD, rfl, 10, 20, rfl, rfl, ⟨by decide, by decide, by decide⟩, x, 10 ^ 20, rfl, rfl, .inl ⟨by omega, by omega⟩, ?_⟩
        refine ⟨_, rfl, D, _, 1, .int y, rfl, rfl, SqL.of eD, rfl, 10, 10, rfl, rfl, ⟨by decide, by decide, by decide⟩, y, 10 ^ 10, rfl, rfl, .inl ⟨by omega, by omega⟩, x * 10 ^ 20, y * 10 ^ 10, rfl, rfl, ?_⟩
        refine ⟨_, rfl, D, _, 2, .int z, rfl, rfl, SqL.of eD, rfl, x * 10 ^ 20 + y * 10 ^ 10, z, rfl, rfl, ?_⟩
        exact q _ H1 (by omega) (by omega) hS1 k1
end

/-! ### prices drawn -/
theorem Kp.gone' {H H' : Hp} {d c p : Addr} {t t' : Int} (S : StAt H d c t) (k : Kp d c H H') (S' : StAt H' d c t') (n : H' p = none) : H p = none := by
  have off := S'.off n
  cases e : H p with
  | none => rfl
  | some o =>
    rw [k p o off.1 off.2 e] at n
    cases n
theorem IntsA.kp {H H' : Hp} {d c a : Addr} {ns : List Int} (h : IntsA H a ns) (k : Kp d c H H') (n : a ≠ d ∧ a ≠ c) : IntsA H' a ns := k _ _ n.1 n.2 h
def spPrices : Sp := fun vs H Q _ => ∃ (d c : Addr) (t many : Int), vs = [.ref d, .int many] ∧ StAt H d c t ∧ t < 2 ^ 58 ∧ 0 ≤ many ∧ many ≤ 900 ∧
  ∀ l ps t' H', H l = none → IntsA H' l ps → (ps.length : Int) = many → t ≤ t' → t' ≤ t + 2 + 10 * many → StAt H' d c t' → Kp d c H H' → Q (.ref l) H'
abbrev sPrices : Stmt := topS 10
theorem scPrices : FnScope ["_law_state", "_law_many", "_law_sort", "_law_like", "_law_found", "_law_place", "_law_some"] ["_law_state", "_law_many"] (defScope sPrices) := ⟨rfl, rfl, rfl, by decide +kernel, rfl, by decide +kernel, by decide +kernel⟩
section
variable {K : PySem.W.Frag} {mg : Str → Option Value} {P : Program} {w : World} {base : Heap}
theorem ok_Prices {f : Addr} {fd : FuncData} (F : Fun K "_law_prices" "_law_prices" sPrices f fd) (C__law_take : Cal P w K mg base 1 "_law_take" ["_law_state", "_law_many"] spTake) (C__law_great : Cal P w K mg base 2 "_law_great" ["_law_state"] spGreat) (m_range : mg "range" = none) : FnOk P w K mg base CX0 3 f fd ["_law_state", "_law_many"] spPrices := by
  refine F.ok scPrices (fun vs H Q E h => ?_) (fun cdv A outer s H vs Q E hr h => ?_)
  · obtain ⟨d, c, t, many, rfl, _⟩ := h
    rfl
  · obtain ⟨d, c, t, many, rfl, hS, ht, m0, m1, q⟩ := h
    refine ⟨_, pss_cons (ps_par rfl scPrices.nd (i := 2) (j := 3) rfl rfl (by decide) rfl rfl (pa_cons (pe_own C__law_take (hr.mono (show 1 ≤ 2 by decide)) (by rfl) (pa_cons (pv 0) (pa_cons pe_int pa_nil))) (pa_cons (pe_own C__law_take (hr.mono (show 1 ≤ 2 by decide)) (by rfl) (pa_cons (pv 0) (pa_cons pe_int pa_nil))) pa_nil)) (by rfl))
      (pss_cons (ps_set (i := 4) scPrices.nd rfl (.inl rfl) (pe_lst pa_nil))
      (pss_cons (ps_for PassesOwn.never rfl (pi_range1 rfl m_range (pa_cons (pv 1) pa_nil)) (pg_name (i := 5) scPrices.nd rfl (.inl rfl))
        (pss_cons (ps_set (i := 6) scPrices.nd rfl (.inl rfl) (pe_lst (pa_cons (pe_own C__law_take (hr.mono (show 1 ≤ 2 by decide)) (by rfl) (pa_cons (pv 0) (pa_cons pe_int pa_nil))) (pa_cons (pv 3) (pa_cons (pe_op op_mulW (pe_op op_fdivW (pe_own C__law_take (hr.mono (show 1 ≤ 2 by decide)) (by rfl) (pa_cons (pv 0) (pa_cons pe_int pa_nil))) pe_int) (pe_own C__law_take (hr.mono (show 1 ≤ 2 by decide)) (by rfl) (pa_cons (pv 0) (pa_cons pe_int pa_nil)))) (pa_cons (pe_own C__law_great hr (by rfl) (pa_cons (pv 0) pa_nil)) pa_nil))))))
        (pss_cons (ps_expr (pe_bm PySem.F.plainAttrs_list PySem.F.slot_list_append PySem.F.type_list_append mt_append (pv 6) (pa_cons (pe_ix ix_list (pv 6) (pe_own C__law_take (hr.mono (show 1 ≤ 2 by decide)) (by rfl) (pa_cons (pv 0) (pa_cons pe_int pa_nil))) (fun _ _ => rfl)) pa_nil)))
        (pss_one (ps_expr (pe_bm PySem.F.plainAttrs_list PySem.F.slot_list_append PySem.F.type_list_append mt_append (pv 4) (pa_cons (pe_ix ix_list (pv 6) (pv 2) (fun _ _ => rfl)) pa_nil)))))))
      (pss_one (ps_ret (pv 4))))), ?_⟩
    refine ⟨_, rfl, d, c, t, 5, rfl, hS, by omega, by decide, by decide, fun so H1 so0 so1 hS1 k1 => ?_⟩
    refine ⟨_, rfl, d, c, t + 1, 9, rfl, hS1, by omega, by decide, by decide, fun li H2 li0 li1 hS2 k2 => ?_⟩
    refine ⟨_, _, rfl, Nat.zero_le _, fun p np => ?_⟩
    have sp := same_upd (o := .lst []) np
    have offp := hS2.off np
    have np0 := Kp.gone' hS (k1.trans k2) hS2 np
    refine ⟨_, rfl, many, rfl, by omega, by omega, for_range (n := many.toNat) (fun i σ Hx => ∃ (ps : List Int) (t' : Int) (y5 y6 : Option V), σ = [some (.ref d), some (.int many), some (.int so), some (.int li), some (.ref p), y5, y6] ∧ IntsA Hx p ps ∧ ps.length = i ∧ t ≤ t' ∧ t' ≤ t + 2 + 10 * (i : Int) ∧ StAt Hx d c t' ∧ Kp d c H Hx) ⟨[], t + 1 + 1, _, _, rfl, upd_same, rfl, by omega, by omega, hS2.same sp, (k1.trans k2).trans (Kp.same d c sp)⟩ (fun i σ Hx hi hP => ?_) (fun σ Hx hP => ?_)⟩
    · obtain ⟨ps, t', y5, y6, rfl, eP, hl, u0, u1, hS3, k3⟩ := hP
      refine ⟨_, rfl, d, c, t', 9, rfl, hS3, by omega, by decide, by decide, fun a1 H4 a10 a11 hS4 k4 => ?_⟩
      refine ⟨_, rfl, _, rfl, d, c, t' + 1, 3, rfl, hS4, by omega, by decide, by decide, fun a2 H5 a20 a21 hS5 k5 => ?_⟩
      refine ⟨a2, 2, rfl, rfl, ⟨by decide, by decide +kernel⟩, ?_⟩
      refine ⟨_, rfl, d, c, t' + 1 + 1, 40, rfl, hS5, by omega, by decide, by decide, fun a3 H6 a30 a31 hS6 k6 => ?_⟩
      refine ⟨a2 / 2, a3, rfl, rfl, ?_, ?_⟩
      · have l1 := Nat.log2_le_self (a2 / 2).natAbs
        have l2 := Nat.log2_le_self a3.natAbs
        show (a2 / 2).natAbs.log2 + a3.natAbs.log2 < 1000000
        omega
      refine ⟨_, rfl, d, c, t' + 1 + 1 + 1, rfl, hS6, by omega, fun a4 H7 a40 a41 hS7 k7 => ⟨(by show 4 ≤ sizeLine; decide), fun z nz => ?_⟩⟩
      have sz := same_upd (o := .lst [.int a1, .int li, .int (a2 / 2 * a3), .int a4]) nz
      have offz := hS7.off nz
      have eP7 := (((eP.kp k4 offp).kp k5 offp).kp k6 offp).kp k7 offp
      have npz : p ≠ z := ne_of_none eP7 nz
      have hS8 := hS7.same sz
      have ez : upd H7 z (.lst [.int a1, .int li, .int (a2 / 2 * a3), .int a4]) z = some (.lst [.int a1, .int li, .int (a2 / 2 * a3), .int a4]) := upd_same
      refine ⟨_, rfl, .inl ⟨rfl, _, SqL.of ez⟩, _, rfl, _, rfl, d, c, _, 4, rfl, hS8, by omega, by decide, by decide, fun a5 H8 a50 a51 hS9 k8 => ?_⟩
      have ez8 := k8 _ _ offz.1 offz.2 ez
      obtain ⟨v, ev, hv⟩ := pick_at (xs := [V.int a1, V.int li, V.int (a2 / 2 * a3), V.int a4]) (n := 4) rfl a50 (by omega)
      obtain ⟨vi, rfl⟩ : ∃ vi : Int, v = .int vi := by
        simp only [List.mem_cons, List.not_mem_nil, or_false] at hv
        rcases hv with rfl | rfl | rfl | rfl <;> exact ⟨_, rfl⟩
      refine ⟨z, _, _, _, rfl, rfl, SqL.of ez8, ev, z, _, _, rfl, rfl, ez8, (by show 4 < sizeLine; decide), ?_⟩
      obtain ⟨u, eu, hu⟩ := pick_at (xs := [V.int a1, V.int li, V.int (a2 / 2 * a3), V.int a4, V.int vi]) (n := 5) rfl so0 (by omega)
      obtain ⟨ui, rfl⟩ : ∃ ui : Int, u = .int ui := by
        simp only [List.mem_cons, List.not_mem_nil, or_false] at hu
        rcases hu with rfl | rfl | rfl | rfl | rfl <;> exact ⟨_, rfl⟩
      have eP8 : upd H8 z (.lst ([V.int a1, V.int li, V.int (a2 / 2 * a3), V.int a4] ++ [V.int vi])) p = some (.lst (ps.map V.int)) := by
        rw [upd_ne npz]
        exact k8 _ _ offp.1 offp.2 (sz _ _ eP7)
      refine ⟨_, rfl, .inl ⟨rfl, _, SqL.of eP8⟩, _, rfl, _, rfl, z, _, _, _, rfl, rfl, SqL.of upd_same, eu, p, _, _, rfl, rfl, eP8, small1000 (by rw [List.length_map]; omega), ?_⟩
      refine ⟨ps ++ [ui], _, _, _, rfl, by show upd _ _ _ _ = _; rw [upd_same, List.map_append]; rfl, by rw [List.length_append, hl]; rfl, ?_, ?_, (hS9.upd offz.1 offz.2).upd offp.1 offp.2, fun b o b1 b2 e => ?_⟩
      · omega
      · omega
      · have nz0 := Kp.gone' hS (((((k3.trans k4).trans k5).trans k6).trans k7)) hS7 nz
        rw [upd_ne (ne_of_none e np0), upd_ne (ne_of_none e nz0)]
        exact k8 b o b1 b2 (sz _ _ (k7 b o b1 b2 (k6 b o b1 b2 (k5 b o b1 b2 (k4 b o b1 b2 (k3 b o b1 b2 e))))))
    · obtain ⟨ps, t', y5, y6, rfl, eP, hl, u0, u1, hS3, k3⟩ := hP
      exact ⟨_, rfl, q p ps t' Hx np0 eP (by omega) u0 (by omega) hS3 k3⟩
end

/-! ### prices and runs drawn -/
def spCase : Sp := fun vs H Q _ => ∃ (d c : Addr) (t many most : Int), vs = [.ref d, .int many, .int most] ∧ StAt H d c t ∧ t < 2 ^ 57 ∧ 1 ≤ many ∧ many ≤ 60 ∧ 1 ≤ most ∧ most ≤ 60 ∧
  ∀ (T l r : Addr) ps rs t' H', H' T = some (.tup [.ref l, .ref r]) → IntsA H' l ps → LsA H' r rs → 1 ≤ ps.length → (ps.length : Int) ≤ many → (rs.length : Int) ≤ most → RunIn ps.length rs → l ≠ d ∧ l ≠ c → r ≠ d ∧ r ≠ c → t ≤ t' → t' ≤ t + 7 + 20 * many + 20 * most → StAt H' d c t' → Kp d c H H' → Q (.ref T) H'
abbrev sCase : Stmt := topS 11
theorem scCase : FnScope ["_law_state", "_law_many", "_law_most", "_law_places", "_law_count"] ["_law_state", "_law_many", "_law_most"] (defScope sCase) := ⟨rfl, rfl, rfl, by decide +kernel, rfl, by decide +kernel, by decide +kernel⟩
section
variable {K : PySem.W.Frag} {mg : Str → Option Value} {P : Program} {w : World} {base : Heap}
theorem ok_Case {f : Addr} {fd : FuncData} (F : Fun K "_law_price_case" "_law_price_case" sCase f fd) (C__law_take : Cal P w K mg base 1 "_law_take" ["_law_state", "_law_many"] spTake) (C__law_prices : Cal P w K mg base 3 "_law_prices" ["_law_state", "_law_many"] spPrices) (C__law_runs : Cal P w K mg base 2 "_law_runs" ["_law_state", "_law_many", "_law_most", "_law_wide"] spRuns) : FnOk P w K mg base CX0 4 f fd ["_law_state", "_law_many", "_law_most"] spCase := by
  refine F.ok scCase (fun vs H Q E h => ?_) (fun cdv A outer s H vs Q E hr h => ?_)
  · obtain ⟨d, c, t, many, most, rfl, _⟩ := h
    rfl
  · obtain ⟨d, c, t, many, most, rfl, hS, ht, m0, m1, o0, o1, q⟩ := h
    refine ⟨_, pss_cons (ps_set (i := 3) scCase.nd rfl (.inl rfl) (pe_op op_add pe_int (pe_ix ix_list (pe_lst (pa_cons (pe_op op_sub (pv 1) pe_int) (pa_cons (pe_own C__law_take (hr.mono (show 1 ≤ 3 by decide)) (by rfl) (pa_cons (pv 0) (pa_cons (pv 1) pa_nil))) pa_nil))) (pe_own C__law_take (hr.mono (show 1 ≤ 3 by decide)) (by rfl) (pa_cons (pv 0) (pa_cons pe_int pa_nil))) (fun _ _ => rfl))))
      (pss_cons (ps_set (i := 4) scCase.nd rfl (.inl rfl) (pe_ix ix_list (pe_lst (pa_cons (pv 2) (pa_cons (pe_op op_add pe_int (pe_own C__law_take (hr.mono (show 1 ≤ 3 by decide)) (by rfl) (pa_cons (pv 0) (pa_cons (pv 2) pa_nil)))) pa_nil))) (pe_own C__law_take (hr.mono (show 1 ≤ 3 by decide)) (by rfl) (pa_cons (pv 0) (pa_cons pe_int pa_nil))) (fun _ _ => rfl)))
      (pss_one (ps_ret (pe_tup (pa_cons (pe_own C__law_prices hr (by rfl) (pa_cons (pv 0) (pa_cons (pv 3) pa_nil))) (pa_cons (pe_own C__law_runs (hr.mono (show 2 ≤ 3 by decide)) (by rfl) (pa_cons (pv 0) (pa_cons (pv 4) (pa_cons (pe_op op_sub (pv 3) pe_int) (pa_cons (pe_ix ix_list (pe_lst (pa_cons pe_int (pa_cons pe_int (pa_cons pe_int (pa_cons pe_int pa_nil))))) (pe_own C__law_take (hr.mono (show 1 ≤ 3 by decide)) (by rfl) (pa_cons (pv 0) (pa_cons pe_int pa_nil))) (fun _ _ => rfl)) pa_nil))))) pa_nil)))))), ?_⟩
    refine ⟨_, rfl, many, 1, rfl, rfl, _, rfl, _, rfl, d, c, t, many, rfl, hS, by omega, by omega, by omega, fun a1 H1 a10 a11 hS1 k1 => ⟨(by show 2 ≤ sizeLine; decide), fun z nz => ?_⟩⟩
    have sz := same_upd (o := .lst [.int (many - 1), .int a1]) nz
    have offz := hS1.off nz
    refine ⟨_, rfl, d, c, t + 1, 2, rfl, hS1.same sz, by omega, by decide, by decide, fun a2 H2 a20 a21 hS2 k2 => ?_⟩
    have ez := k2 _ _ offz.1 offz.2 (upd_same (H := H1) (a := z) (o := .lst [.int (many - 1), .int a1]))
    obtain ⟨v, ev, hv⟩ := pick_at (xs := [V.int (many - 1), V.int a1]) (n := 2) rfl a20 (by omega)
    obtain ⟨pm, rfl, pm0, pm1⟩ : ∃ vi : Int, v = .int vi ∧ 0 ≤ vi ∧ vi < many := by
      simp only [List.mem_cons, List.not_mem_nil, or_false] at hv
      rcases hv with rfl | rfl
      · exact ⟨_, rfl, by omega, by omega⟩
      · exact ⟨_, rfl, by omega, by omega⟩
    refine ⟨z, _, _, _, rfl, rfl, SqL.of ez, ev, 1, pm, rfl, rfl, ?_⟩
    have k12 := (k1.trans (Kp.same d c sz)).trans k2
    refine ⟨_, rfl, _, rfl, _, rfl, d, c, t + 1 + 1, most, rfl, hS2, by omega, by omega, by omega, fun a3 H3 a30 a31 hS3 k3 => ⟨1, a3, rfl, rfl, (by show 2 ≤ sizeLine; decide), fun y ny => ?_⟩⟩
    have sy := same_upd (o := .lst [.int most, .int (1 + a3)]) ny
    have offy := hS3.off ny
    refine ⟨_, rfl, d, c, t + 1 + 1 + 1, 2, rfl, hS3.same sy, by omega, by decide, by decide, fun a4 H4 a40 a41 hS4 k4 => ?_⟩
    have ey := k4 _ _ offy.1 offy.2 (upd_same (H := H3) (a := y) (o := .lst [.int most, .int (1 + a3)]))
    obtain ⟨v, ev, hv⟩ := pick_at (xs := [V.int most, V.int (1 + a3)]) (n := 2) rfl a40 (by omega)
    obtain ⟨cn, rfl, cn0, cn1⟩ : ∃ vi : Int, v = .int vi ∧ 0 ≤ vi ∧ vi ≤ most := by
      simp only [List.mem_cons, List.not_mem_nil, or_false] at hv
      rcases hv with rfl | rfl
      · exact ⟨_, rfl, by omega, by omega⟩
      · exact ⟨_, rfl, by omega, by omega⟩
    refine ⟨y, _, _, _, rfl, rfl, SqL.of ey, ev, ?_⟩
    have k14 := (k12.trans (k3.trans (Kp.same d c sy))).trans k4
    refine ⟨_, rfl, _, rfl, d, c, _, 1 + pm, rfl, hS4, by omega, by omega, by omega, fun l ps t5 H5 nl eL ll u0 u1 hS5 k5 => ?_⟩
    have offl := hS4.off nl
    refine ⟨_, rfl, _, rfl, _, rfl, 1 + pm, 1, rfl, rfl, (by show 4 ≤ sizeLine; decide), fun x nx => ?_⟩
    have sx := same_upd (o := .lst [.int 2, .int 5, .int 20, .int 40]) nx
    have offx := hS5.off nx
    refine ⟨_, rfl, d, c, t5, 4, rfl, hS5.same sx, by omega, by decide, by decide, fun a6 H6 a60 a61 hS6 k6 => ?_⟩
    have ex := k6 _ _ offx.1 offx.2 (upd_same (H := H5) (a := x) (o := .lst [.int 2, .int 5, .int 20, .int 40]))
    obtain ⟨v, ev, hv⟩ := pick_at (xs := [V.int 2, V.int 5, V.int 20, V.int 40]) (n := 4) rfl a60 (by omega)
    obtain ⟨wd, rfl, wd0, wd1⟩ : ∃ vi : Int, v = .int vi ∧ 1 ≤ vi ∧ vi ≤ 40 := by
      simp only [List.mem_cons, List.not_mem_nil, or_false] at hv
      rcases hv with rfl | rfl | rfl | rfl <;> exact ⟨_, rfl, by decide, by decide⟩
    refine ⟨x, _, _, _, rfl, rfl, SqL.of ex, ev, d, c, _, cn, 1 + pm - 1, wd, rfl, hS6, by omega, by omega, by omega, by omega, by omega, by omega, by omega, fun r rs H7 t7 nr eR hro hrl v0 v1 hS7 k7 => ?_⟩
    have offr := hS6.off nr
    refine ⟨(by show 2 ≤ sizeLine; decide), fun T nT => ?_⟩
    have sT := same_upd (o := .tup [.ref l, .ref r]) nT
    refine q T l r ps rs t7 _ upd_same (sT _ _ (k7 _ _ offl.1 offl.2 (k6 _ _ offl.1 offl.2 (sx _ _ eL)))) (eR.same sT) (by omega) (by omega) (by omega) (fun r' hr' => ?_) offl offr (by omega) (by omega) (hS7.same sT) ?_
    · have := hro r' hr'
      exact ⟨this.1, this.2.1, by omega⟩
    · exact (((k14.trans k5).trans ((Kp.same d c sx).trans k6)).trans k7).trans (Kp.same d c sT)
end

/-! ### every choice of places -/
def rowsF (fr : List Int) : List (List Int) := fr.foldl (fun some n => some ++ some.map (· ++ [n])) [[]]
theorem rowsF_snoc (fr : List Int) (n : Int) : rowsF (fr ++ [n]) = rowsF fr ++ (rowsF fr).map (· ++ [n]) := by simp [rowsF]
theorem rows_from : ∀ (fr : List Int) (acc : List (List Int)) (row : List Int), row ∈ fr.foldl (fun some n => some ++ some.map (· ++ [n])) acc → ∃ r ∈ acc, ∃ s, row = r ++ s ∧ ∀ e ∈ s, e ∈ fr
  | [], _, row, h => ⟨row, h, [], by simp, fun _ h => nomatch h⟩
  | n :: fr, acc, row, h => by
    obtain ⟨r, hr, s, e, hs⟩ := rows_from fr _ row h
    rcases List.mem_append.mp hr with z | z
    · exact ⟨r, z, s, e, fun x hx => List.mem_cons_of_mem _ (hs x hx)⟩
    · obtain ⟨r', hr', rfl⟩ := List.mem_map.mp z
      refine ⟨r', hr', n :: s, by rw [e]; simp, fun x hx => ?_⟩
      rcases List.mem_cons.mp hx with y | y
      · rw [y]; exact List.mem_cons_self ..
      · exact List.mem_cons_of_mem _ (hs x y)
theorem rows_mem {fr row : List Int} (h : row ∈ rowsF fr) : ∀ e ∈ row, e ∈ fr := by
  obtain ⟨r, hr, s, rfl, hs⟩ := rows_from fr _ row h
  rw [List.mem_singleton.mp hr]
  exact hs
theorem rows_all (p : Int → Bool) : ∀ (fr : List Int) (acc : List (List Int)) (r : List Int), r ∈ acc → r ++ fr.filter p ∈ fr.foldl (fun some n => some ++ some.map (· ++ [n])) acc
  | [], _, r, h => by simpa using h
  | n :: fr, acc, r, h => by
    by_cases hp : p n = true
    · rw [List.filter_cons_of_pos hp, show r ++ n :: fr.filter p = (r ++ [n]) ++ fr.filter p by simp]
      exact rows_all p fr _ _ (List.mem_append_right _ (List.mem_map_of_mem h))
    · rw [List.filter_cons_of_neg hp]
      exact rows_all p fr _ _ (List.mem_append_left _ h)
theorem rows_filter (fr : List Int) (p : Int → Bool) : fr.filter p ∈ rowsF fr := by
  have := rows_all p fr [[]] [] (List.mem_singleton.mpr rfl)
  rw [List.nil_append] at this
  exact this
theorem inc_eq : ∀ {l m : List Int}, l.Pairwise (· < ·) → m.Pairwise (· < ·) → (∀ x, x ∈ l ↔ x ∈ m) → l = m
  | [], [], _, _, _ => rfl
  | [], y :: m, _, _, h => absurd ((h y).mpr (List.mem_cons_self ..)) (List.not_mem_nil)
  | x :: l, [], _, _, h => absurd ((h x).mp (List.mem_cons_self ..)) (List.not_mem_nil)
  | x :: l, y :: m, hl, hm, h => by
    obtain ⟨l1, l2⟩ := List.pairwise_cons.mp hl
    obtain ⟨m1, m2⟩ := List.pairwise_cons.mp hm
    have exy : x = y := by
      rcases List.mem_cons.mp ((h x).mp (List.mem_cons_self ..)) with z | z
      · exact z
      · rcases List.mem_cons.mp ((h y).mpr (List.mem_cons_self ..)) with w | w
        · exact w.symm
        · have := m1 x z
          have := l1 y w
          omega
    subst exy
    rw [inc_eq l2 m2 fun z => ⟨fun hz => ?_, fun hz => ?_⟩]
    · rcases List.mem_cons.mp ((h z).mp (List.mem_cons_of_mem _ hz)) with w | w
      · have := l1 z hz
        omega
      · exact w
    · rcases List.mem_cons.mp ((h z).mpr (List.mem_cons_of_mem _ hz)) with w | w
      · have := m1 z hz
        omega
      · exact w
theorem lc_bs {K : PySem.W.Frag} {a : Addr} {xs : List V} {g : TG} {tt : TT} {te : TE} {vs : List Nat} {σ : L2.St} {H1 : Hp} {D : Addr} {Qd : Hp → Prop} (bs : List Bool) (nD : H1 D = none) (ea : H1 a = some (.lst xs)) (hl : bs.length = xs.length) (hz : xs.length ≤ 1000)
    (turn : ∀ (i : Nat) (x : V) (b : Bool) (H : Hp) (Kt : V → Hp → Prop) (Kn : Hp → Prop), xs[i]? = some x → bs[i]? = some b → Same H1 H → (∀ H4, Same H H4 → Kt (.bl b) H4) → g x (wipe σ vs) H fun σ2 H2 => wipe σ2 vs = wipe σ vs ∧ tt σ2 H2 fun b H3 => if b = true then te σ2 H3 Kt else Kn H3)
    (fin : ∀ H, Same H1 H → H D = some (.lst (bs.map V.bl)) → Qd H) : LcW (Itl K a) g tt te vs σ D Qd H1 := by
  refine lc_it walk_list (fun j H => Same H1 H ∧ H D = some (.lst ((bs.take j).map V.bl))) ⟨same_upd nD, upd_same⟩ (fun i H _ p => SqL.of (p.1 _ _ ea)) (fun i x H H' hi hP hy => ?_) (fun H hP => ?_)
  · obtain ⟨sm, eD⟩ := hP
    obtain ⟨rfl, hx⟩ := hy
    have hb : bs[i]? = some bs[i] := List.getElem?_eq_getElem (by omega)
    refine turn i x _ H' _ _ hx hb sm fun H4 s4 => ⟨_, s4 _ _ eD, Nat.lt_of_lt_of_le (show _ < 1000 by rw [List.length_map, List.length_take]; omega) (by decide), fun b o e => ?_, ?_⟩
    · rw [upd_ne (ne_of_none e nD)]
      exact s4 _ _ (sm b o e)
    · rw [upd_same, List.take_add_one, hb, List.map_append]
      rfl
  · obtain ⟨sm, eD⟩ := hP
    rw [← hl, List.take_length] at eD
    exact fin H sm eD
theorem rows_short0 : ∀ (fr : List Int) (acc : List (List Int)) (row : List Int), row ∈ fr.foldl (fun some n => some ++ some.map (· ++ [n])) acc → ∃ r ∈ acc, row.length ≤ r.length + fr.length
  | [], _, row, h => ⟨row, h, Nat.le_refl _⟩
  | n :: fr, acc, row, h => by
    obtain ⟨r, hr, hl⟩ := rows_short0 fr _ row h
    rcases List.mem_append.mp hr with z | z
    · exact ⟨r, z, by rw [List.length_cons]; omega⟩
    · obtain ⟨r', hr', rfl⟩ := List.mem_map.mp z
      refine ⟨r', hr', ?_⟩
      rw [List.length_append] at hl
      rw [List.length_cons]
      simp at hl
      omega
theorem rows_short {fr row : List Int} (h : row ∈ rowsF fr) : row.length ≤ fr.length := by
  obtain ⟨r, hr, hl⟩ := rows_short0 fr _ row h
  rw [List.mem_singleton.mp hr] at hl
  simpa using hl
def inB2 (p : Int × Int) (n : Int) : Bool := decide (p.1 ≤ n) && decide (n ≤ p.2)
theorem inB2_iff {p : Int × Int} {n : Int} : inB2 p n = true ↔ p.1 ≤ n ∧ n ≤ p.2 := by simp [inB2]
def hitB (rs : List (Int × Int)) (row : List Int) : Bool := rs.all fun r => row.any fun n => inB2 r n
theorem rows_len : ∀ fr : List Int, (rowsF fr).length = 2 ^ fr.length := fun fr => by
  suffices h : ∀ (fr : List Int) (acc : List (List Int)), (fr.foldl (fun some n => some ++ some.map (· ++ [n])) acc).length = acc.length * 2 ^ fr.length by
    have := h fr [[]]
    simpa [rowsF] using this
  intro fr
  induction fr with
  | nil => intro acc; simp
  | cons n fr ih =>
    intro acc
    rw [List.foldl_cons, ih, List.length_append, List.length_map, List.length_cons, Nat.pow_succ, Nat.mul_comm (2 ^ fr.length) 2, ← Nat.mul_assoc, Nat.mul_two]
def nums (n : Nat) : List Int := (List.range n).map fun k : Nat => (k : Int)
theorem nums_len (n : Nat) : (nums n).length = n := by simp [nums]
theorem nums_mem {n : Nat} {x : Int} : x ∈ nums n ↔ 0 ≤ x ∧ x < n := by
  unfold nums
  rw [List.mem_map]
  refine ⟨fun ⟨k, h, e⟩ => ?_, fun h => ⟨x.toNat, List.mem_range.mpr (by omega), by omega⟩⟩
  have := List.mem_range.mp h
  omega
theorem nums_take {n i : Nat} (h : i ≤ n) : (nums n).take i = nums i := by
  unfold nums
  rw [← List.map_take, List.take_range, Nat.min_eq_left h]
theorem nums_snoc (i : Nat) : nums (i + 1) = nums i ++ [(i : Int)] := by
  unfold nums
  rw [List.range_succ, List.map_append]
  rfl
theorem costF_snoc (pr : Int → Int) (l : List Int) (x : Int) : costF pr (l ++ [x]) = costF pr l + pr x := by
  unfold costF
  rw [List.map_append, List.sum_append]
  simp
/-- rows with what they cost; where the rows lie -/
def RW (pr : Int → Int) (N : Addr → Prop) (H : Hp) (us : List V) (rows : List (List Int)) : Prop := us.length = rows.length ∧ ∀ (i : Nat) row, rows[i]? = some row → ∃ T l, us[i]? = some (.ref T) ∧ H T = some (.tup [.ref l, .int (costF pr row)]) ∧ H l = some (.lst (row.map V.int)) ∧ N l
theorem RW.same {pr : Int → Int} {N : Addr → Prop} {H H' : Hp} {us : List V} {rows : List (List Int)} (h : RW pr N H us rows) (s : Same H H') : RW pr N H' us rows := ⟨h.1, fun i r e => let ⟨T, l, h1, h2, h3, h4⟩ := h.2 i r e; ⟨T, l, h1, s _ _ h2, s _ _ h3, h4⟩⟩
theorem RW.weak {pr : Int → Int} {N N' : Addr → Prop} {H : Hp} {us : List V} {rows : List (List Int)} (h : RW pr N H us rows) (w : ∀ a, N a → N' a) : RW pr N' H us rows := ⟨h.1, fun i r e => let ⟨T, l, h1, h2, h3, h4⟩ := h.2 i r e; ⟨T, l, h1, h2, h3, w _ h4⟩⟩
theorem RW.nil {pr : Int → Int} {N : Addr → Prop} {H : Hp} : RW pr N H [] [] := ⟨rfl, fun i p e => by simp at e⟩
theorem RW.at {pr : Int → Int} {N : Addr → Prop} {H : Hp} {us : List V} {rows : List (List Int)} {i : Nat} {x : V} (h : RW pr N H us rows) (e : us[i]? = some x) : ∃ row T l, rows[i]? = some row ∧ x = .ref T ∧ H T = some (.tup [.ref l, .int (costF pr row)]) ∧ H l = some (.lst (row.map V.int)) := by
  have hi : i < rows.length := by rw [← h.1]; exact (List.getElem?_eq_some_iff.mp e).1
  obtain ⟨T, l, h1, h2, h3, _⟩ := h.2 i _ (List.getElem?_eq_getElem hi)
  rw [e] at h1
  exact ⟨_, T, l, List.getElem?_eq_getElem hi, Option.some.inj h1, h2, h3⟩
theorem RW.app {pr : Int → Int} {N : Addr → Prop} {H : Hp} {us ws : List V} {rs qs : List (List Int)} (h : RW pr N H us rs) (h' : RW pr N H ws qs) : RW pr N H (us ++ ws) (rs ++ qs) := by
  refine ⟨by rw [List.length_append, List.length_append, h.1, h'.1], fun i r e => ?_⟩
  by_cases hi : i < rs.length
  · rw [List.getElem?_append_left hi] at e
    obtain ⟨T, l, h1, h2⟩ := h.2 i r e
    exact ⟨T, l, by rw [List.getElem?_append_left (by rw [h.1]; exact hi)]; exact h1, h2⟩
  · rw [List.getElem?_append_right (by omega)] at e
    obtain ⟨T, l, h1, h2⟩ := h'.2 _ r e
    exact ⟨T, l, by rw [List.getElem?_append_right (by rw [h.1]; omega), h.1]; exact h1, h2⟩
theorem RW.one {pr : Int → Int} {N : Addr → Prop} {H : Hp} {T l : Addr} {r : List Int} (e : H T = some (.tup [.ref l, .int (costF pr r)])) (e2 : H l = some (.lst (r.map V.int))) (n : N l) : RW pr N H [.ref T] [r] := ⟨rfl, fun i p h => by
  cases i with
  | zero => cases h; exact ⟨T, l, rfl, e, e2, n⟩
  | succ i => simp at h⟩
theorem RW.upd {pr : Int → Int} {H : Hp} {us : List V} {rows : List (List Int)} {G : Addr} {xs : List V} {o : HO} (h : RW pr (· ≠ G) H us rows) (e : H G = some (.lst xs)) : RW pr (· ≠ G) (upd H G o) us rows := ⟨h.1, fun i r er => by
  obtain ⟨T, l, h1, h2, h3, h4⟩ := h.2 i r er
  refine ⟨T, l, h1, ?_, ?_, h4⟩
  · rw [upd_ne (ne_of h2 e (fun z => nomatch z))]
    exact h2
  · rw [upd_ne h4]
    exact h3⟩
def costsF (ps : List Int) (rs : List (Int × Int)) : List Int := ((rowsF (nums ps.length)).filter (hitB rs)).map (costF (prF ps))

/-! ### the cheapest by trying -/
def spCheap (K : PySem.W.Frag) : Sp := fun vs H Q _ => ∃ (a b : Addr) (ps : List Int) (rs : List (Int × Int)), vs = [.ref a, .ref b] ∧ IntsA H a ps ∧ LsA H b rs ∧ ps.length ≤ 9 ∧ rs.length ≤ 900 ∧ RunIn ps.length rs ∧ ∀ m H', Same H H' → m ∈ costsF ps rs → (∀ c ∈ costsF ps rs, m ≤ c) → Q (.int m) H'
abbrev sCheap : Stmt := topS 12
theorem scCheap : FnScope ["_law_prices_here", "_law_runs_here", "_law_some", "_law_place", "_law_price", "_law_row", "_law_cost", "_law_costs", "_law_first", "_law_last"] ["_law_prices_here", "_law_runs_here"] (defScope sCheap) := ⟨rfl, rfl, rfl, by decide +kernel, rfl, by decide +kernel, by decide +kernel⟩
section
variable {K : PySem.W.Frag} {mg : Str → Option Value} {P : Program} {w : World} {base : Heap}
theorem ok_Cheap {f : Addr} {fd : FuncData} (F : Fun K "_law_cheapest" "_law_cheapest" sCheap f fd) (m_enumerate : mg "enumerate" = none) (m_any : mg "any" = none) (m_all : mg "all" = none) (m_min : mg "min" = none) : FnOk P w K mg base CX0 1 f fd ["_law_prices_here", "_law_runs_here"] (spCheap K) := by
  refine F.ok scCheap (fun vs H Q E h => ?_) (fun cdv A outer s H vs Q E hr h => ?_)
  · obtain ⟨a, b, ps, rs, rfl, _⟩ := h
    rfl
  · obtain ⟨a, b, ps, rs, rfl, hA, hB, hpz, hrz, hr0, q⟩ := h
    refine ⟨_, pss_cons (ps_set (i := 2) scCheap.nd rfl (.inl rfl) (pe_lst (pa_cons (pe_tup (pa_cons (pe_lst pa_nil) (pa_cons pe_int pa_nil))) pa_nil)))
      (pss_cons (ps_for PassesOwn.never rfl (pi_enum (by rfl) m_enumerate (pa_cons (pv 0) pa_nil)) (pg_tup rfl (pgs_cons (pg_name (i := 3) scCheap.nd rfl (.inr rfl)) (pgs_cons (pg_name (i := 4) scCheap.nd rfl (.inr rfl)) pgs_nil)))
        (pss_one (ps_set (i := 2) scCheap.nd rfl (.inl rfl) (pe_op op_cat (pv 2) (pe_lc (own := [("_law_row", 5), ("_law_cost", 6)]) (g := (gTup K 2 (gCons (gName 5) (gCons (gName 6) gNil)))) (tt := tYes) (te := (tTup (tCons (tOp rCat (tVar 5) (tLst (tCons (tVar 3) tNil))) (tCons (tOp (rI0 fun i j => .int (i + j)) (tVar 6) (tVar 4)) tNil)))) rfl scCheap.nd (pi_list (pv 2)) (blkOk_by (own := [("_law_row", 5), ("_law_cost", 6)]) (N := ["_law_prices_here", "_law_runs_here", "_law_some", "_law_place", "_law_price", "_law_row", "_law_cost", "_law_costs", "_law_first", "_law_last"]) (sc := defScope sCheap) (by decide +kernel)) (fun _ _ _ _ _ => (pg_tup rfl (pgs_cons (pg_name (i := 5) scCheap.nd rfl (.inl rfl)) (pgs_cons (pg_name (i := 6) scCheap.nd rfl (.inl rfl)) pgs_nil)))) (fun _ _ _ _ _ => pts_nil) (fun _ _ _ _ _ => (pe_tup (pa_cons (pe_op op_cat (pv 5) (pe_lst (pa_cons (pv 3) pa_nil))) (pa_cons (pe_op op_add (pv 6) (pv 4)) pa_nil)))))))))
      (pss_cons (ps_set (i := 7) scCheap.nd rfl (.inl rfl) (pe_lst pa_nil))
      (pss_cons (ps_for PassesOwn.never rfl (pi_list (pv 2)) (pg_tup rfl (pgs_cons (pg_name (i := 5) scCheap.nd rfl (.inr rfl)) (pgs_cons (pg_name (i := 6) scCheap.nd rfl (.inl rfl)) pgs_nil)))
        (pss_one (ps_if (pt_val (pe_callB (cr_all rfl) (by rfl) m_all (by decide +kernel) (pa_cons (pe_lc (own := [("_law_first", 8), ("_law_last", 9)]) (g := (gTup K 2 (gCons (gName 8) (gCons (gName 9) gNil)))) (tt := tYes) (te := (tCB (rAny K) (tCons (tLc (iList K (tVar 5)) (gName 3) tYes (tChain (rI0 fun i j => .bl (decide (i ≤ j))) (rI0 fun i j => .bl (decide (i ≤ j))) (tVar 8) (tVar 3) (tVar 9)) [3]) tNil))) rfl scCheap.nd (pi_list (pv 1)) (blkOk_by (own := [("_law_first", 8), ("_law_last", 9)]) (N := ["_law_prices_here", "_law_runs_here", "_law_some", "_law_place", "_law_price", "_law_row", "_law_cost", "_law_costs", "_law_first", "_law_last"]) (sc := defScope sCheap) (by decide +kernel)) (fun _ _ _ _ _ => (pg_tup rfl (pgs_cons (pg_name (i := 8) scCheap.nd rfl (.inr rfl)) (pgs_cons (pg_name (i := 9) scCheap.nd rfl (.inr rfl)) pgs_nil)))) (fun _ _ _ _ _ => pts_nil) (fun _ _ _ _ _ => (pe_callB (cr_any rfl) (by rfl) m_any (by decide +kernel) (pa_cons (pe_lc (own := [("_law_place", 3)]) (g := (gName 3)) (tt := tYes) (te := (tChain (rI0 fun i j => .bl (decide (i ≤ j))) (rI0 fun i j => .bl (decide (i ≤ j))) (tVar 8) (tVar 3) (tVar 9))) rfl scCheap.nd (pi_list (pv 5)) (blkOk_by (own := [("_law_place", 3)]) (N := ["_law_prices_here", "_law_runs_here", "_law_some", "_law_place", "_law_price", "_law_row", "_law_cost", "_law_costs", "_law_first", "_law_last"]) (by show blkC _ ({ kind := .function, names := [(".0", .local), ("_law_first", .cell), ("_law_last", .cell), ("any", .globalImplicit), ("_law_row", .cell)], isGenerator := false, isCoroutine := false } : Scope) _ _ = true; decide +kernel)) (fun _ _ _ _ _ => (pg_name (i := 3) scCheap.nd rfl (.inl rfl))) (fun _ _ _ _ _ => pts_nil) (fun _ _ _ _ _ => (pe_chain op_le op_le (pv 8) (pv 3) (pv 9)))) pa_nil)))) pa_nil))) (pss_one (ps_expr (pe_bm PySem.F.plainAttrs_list PySem.F.slot_list_append PySem.F.type_list_append mt_append (pv 7) (pa_cons (pv 6) pa_nil))))
          pss_nil)))
      (pss_one (ps_ret (pe_callB (cr_min rfl) (by rfl) m_min (by decide +kernel) (pa_cons (pv 7) pa_nil))))))), ?_⟩
    obtain ⟨ub, eb, pb⟩ := id hB
    refine ⟨Nat.zero_le _, fun L0 nL0 => ⟨(by show 2 ≤ sizeLine; decide), fun T0 nT0 => ⟨(by show 1 ≤ sizeLine; decide), fun L1 nL1 => ?_⟩⟩⟩
    have sL0 := same_upd (o := .lst []) nL0
    have sT0 := same_upd (o := .tup [.ref L0, .int 0]) nT0
    have sL1 := same_upd (o := .lst [.ref T0]) nL1
    have s01 := (sL0.trans sT0).trans sL1
    have lp : (ps.map V.int).length = ps.length := List.length_map ..
    refine ⟨_, rfl, a, _, rfl, SqL.of (s01 _ _ hA), for_it (walk_enum (xs := ps.map V.int)) (fun i σ Hx => ∃ (y3 y4 y5 y6 y7 y8 y9 : Option V) (L : Addr) (us : List V), σ = [some (.ref a), some (.ref b), some (.ref L), y3, y4, y5, y6, y7, y8, y9] ∧ Same H Hx ∧ Hx L = some (.lst us) ∧ RW (prF ps) (fun _ => True) Hx us (rowsF (nums i))) ⟨_, _, _, _, _, _, _, L1, _, rfl, s01, upd_same, RW.one (r := []) (sL1 _ _ upd_same) ((sT0.trans sL1) _ _ upd_same) trivial⟩ (fun i σ Hx _ hP => ?_) (fun i x σ Hx H' hi hP hy => ?_) (fun σ Hx hP => ?_)⟩
    · obtain ⟨y3, y4, y5, y6, y7, y8, y9, L, us, rfl, sm, eL, hR⟩ := hP
      exact SqL.of (sm _ _ hA)
    · obtain ⟨y3, y4, y5, y6, y7, y8, y9, L, us, rfl, sm, eL, hR⟩ := hP
      obtain ⟨T, x1, x2, rfl, nT, rfl, e1, e2⟩ := hy
      cases e1
      rw [lp] at hi
      have e2 : (ps.map V.int)[i]? = some x2 := e2
      rw [List.getElem?_map, List.getElem?_eq_getElem hi] at e2
      cases e2
      have epr : prF ps (i : Int) = ps[i] := cF_at (by rw [List.getElem?_append_left hi]; exact List.getElem?_eq_getElem hi)
      have sT := same_upd (o := .tup [.int (i : Nat), .int ps[i]]) nT
      refine ⟨T, _, rfl, .inl (.inl upd_same), rfl, _, _, rfl, _, _, rfl, rfl, ?_⟩
      have lr : (rowsF (nums i)).length ≤ 256 := by
        rw [rows_len, nums_len]
        exact Nat.le_trans (Nat.pow_le_pow_right (by decide) (show i ≤ 8 by omega)) (by decide)
      have lu := hR.1
      have eLT := sT _ _ eL
      have hRT := hR.same sT
      generalize upd Hx T (.tup [.int (i : Nat), .int ps[i]]) = HT at *
      refine ⟨_, rfl, _, rfl, L, rfl, ⟨_, SqL.of eLT⟩, fun G nG => lc_list (xs := us) (fun j H' => Same HT H' ∧ ∃ ws, H' G = some (.lst ws) ∧ RW (prF ps) (· ≠ G) H' ws (((rowsF (nums i)).take j).map (· ++ [(i : Int)]))) ⟨same_upd nG, [], upd_same, RW.nil⟩ (fun j H' _ hP => SqL.of (hP.1 _ _ eLT)) (fun j x H' hx hP => ?_) (fun H3 hP => ?_)⟩
      · obtain ⟨sm2, ws, eG, hws⟩ := hP
        obtain ⟨row, R, r, er, rfl, eT, eR⟩ := hRT.at hx
        have lrow : row.length ≤ 9 := by
          have := rows_short (List.mem_of_getElem? er)
          rw [nums_len] at this
          omega
        refine ⟨R, _, rfl, .inl (.inl (sm2 _ _ eT)), rfl, _, _, rfl, _, _, rfl, rfl, rfl, ?_⟩
        refine ⟨_, rfl, _, rfl, (by show 1 ≤ sizeLine; decide), fun l1 nl1 => ?_⟩
        have sl1 := same_upd (o := .lst [.int (i : Int)]) nl1
        refine ⟨r, l1, _, _, rfl, rfl, sl1 _ _ (sm2 _ _ eR), upd_same, Nat.le_trans (show _ ≤ 1000 by rw [List.length_map]; show _ + 1 ≤ _; omega) (by decide), fun p np => ?_⟩
        have sp := same_upd (o := .lst (row.map V.int ++ [.int (i : Int)])) np
        refine ⟨_, rfl, _, rfl, _, _, rfl, rfl, (by show 2 ≤ sizeLine; decide), fun T2 nT2 => ?_⟩
        have sT2 := same_upd (o := .tup [.ref p, .int (costF (prF ps) row + ps[i])]) nT2
        have eG1 := sl1 _ _ eG
        have eG2 := sT2 _ _ (sp _ _ eG1)
        have npG : p ≠ G := fun z => by rw [z, eG1] at np; cases np
        have lws : ws.length ≤ 256 := by
          rw [hws.1, List.length_map, List.length_take]
          omega
        refine ⟨_, eG2, small1000 (by omega), fun b' o e => ?_, ws ++ [.ref T2], upd_same, ?_⟩
        · rw [upd_ne (ne_of_none e nG)]
          exact sT2 _ _ (sp _ _ (sl1 _ _ (sm2 b' o e)))
        · have et : ((rowsF (nums i)).take (j + 1)).map (· ++ [(i : Int)]) = ((rowsF (nums i)).take j).map (· ++ [(i : Int)]) ++ [row ++ [(i : Int)]] := by
            rw [List.take_add_one, er, List.map_append]
            rfl
          rw [et]
          refine RW.upd (RW.app (hws.same ((sl1.trans sp).trans sT2)) (RW.one (T := T2) (l := p) (r := row ++ [(i : Int)]) ?_ ?_ npG)) eG2
          · rw [upd_same, costF_snoc, epr]
          · rw [List.map_append]
            exact sT2 _ _ upd_same
      · obtain ⟨sm2, ws, eG, hws⟩ := hP
        rw [lu, List.take_length] at hws
        have lw : ws.length ≤ 256 := by rw [hws.1, List.length_map]; omega
        refine ⟨L, G, _, _, rfl, rfl, sm2 _ _ eLT, eG, Nat.le_trans (show _ ≤ 1000 by omega) (by decide), fun p np => ?_⟩
        have sp := same_upd (o := .lst (us ++ ws)) np
        refine ⟨_, _, _, _, _, _, _, p, us ++ ws, rfl, ((sm.trans sT).trans sm2).trans sp, upd_same, ?_⟩
        rw [nums_snoc, rowsF_snoc]
        exact ((hRT.same sm2).app (hws.weak fun _ _ => trivial)).same sp
    · obtain ⟨y3, y4, y5, y6, y7, y8, y9, L, us, rfl, sm, eL, hR⟩ := hP
      rw [lp] at hR
      have lr : (rowsF (nums ps.length)).length ≤ 512 := by
        rw [rows_len, nums_len]
        exact Nat.le_trans (Nat.pow_le_pow_right (by decide) hpz) (by decide)
      refine ⟨Nat.zero_le _, fun C nC => ?_⟩
      have sC := same_upd (o := .lst []) nC
      refine ⟨_, rfl, L, rfl, ⟨_, SqL.of (sC _ _ eL)⟩, for_list (xs := us) (fun i σ Hy => ∃ (y3 y4 y5 y6 y8 y9 : Option V), σ = [some (.ref a), some (.ref b), some (.ref L), y3, y4, y5, y6, some (.ref C), y8, y9] ∧ Same Hx Hy ∧ IntsA Hy C ((((rowsF (nums ps.length)).take i).filter (hitB rs)).map (costF (prF ps)))) ⟨_, _, _, _, _, _, rfl, sC, upd_same⟩ (fun i σ Hy _ hP => ?_) (fun i x σ Hy hx hP => ?_) (fun σ Hy hP => ?_)⟩
      · obtain ⟨y3, y4, y5, y6, y8, y9, rfl, sy, eC⟩ := hP
        exact SqL.of (sy _ _ eL)
      · obtain ⟨y3, y4, y5, y6, y8, y9, rfl, sy, eC⟩ := hP
        obtain ⟨row, R, r, er, rfl, eT, eR⟩ := hR.at hx
        have eby : Hy b = some (.lst ub) := sy _ _ (sm _ _ eb)
        have eRy := sy _ _ eR
        have lrow : row.length ≤ 9 := by
          have := rows_short (List.mem_of_getElem? er)
          rw [nums_len] at this
          omega
        refine ⟨R, _, rfl, .inl (.inl (sy _ _ eT)), rfl, _, _, rfl, _, _, rfl, rfl, ?_⟩
        refine ⟨_, rfl, b, rfl, ⟨_, SqL.of eby⟩, fun G nG => lc_bs (bs := rs.map fun r => row.any (inB2 r)) nG eby (by rw [List.length_map]; exact pb.1.symm) (by rw [pb.1]; omega) (fun j x bb H2 Kt Kn hx2 hb s2 k => ?_) (fun H3 s3 eG => ?_)⟩
        · obtain ⟨g, T, eg, rfl, eT'⟩ := prs_at pb hx2
          rw [List.getElem?_map, eg] at hb
          cases hb
          refine ⟨T, _, rfl, .inl (.inl (s2 _ _ (sy _ _ (sm _ _ eT')))), rfl, _, _, rfl, _, _, rfl, rfl, rfl, ?_⟩
          have eR2 := s2 _ _ eRy
          refine ⟨_, rfl, r, rfl, ⟨_, SqL.of eR2⟩, fun G2 nG2 => lc_bs (bs := row.map fun n => inB2 g n) nG2 eR2 (by rw [List.length_map, List.length_map]) (by rw [List.length_map]; omega) (fun j3 x3 b3 H4 Kt4 Kn4 hx4 hb4 s4 k4 => ?_) (fun H5 s5 eG2 => ?_)⟩
          · have hx5 : row[j3]?.map V.int = some x3 := by rw [← List.getElem?_map]; exact hx4
            rw [List.getElem?_map] at hb4
            cases hn : row[j3]? with
            | none => rw [hn] at hx5; cases hx5
            | some n =>
              rw [hn] at hx5 hb4
              cases hx5
              cases hb4
              refine ⟨rfl, _, rfl, _, rfl, _, _, rfl, rfl, _, rfl, ite2 (fun c1 => ⟨_, rfl, _, _, rfl, rfl, ?_⟩) (fun c1 => ?_)⟩
              · have : inB2 g n = decide (n ≤ g.2) := by unfold inB2; rw [c1]; rfl
                show Kt4 (V.bl (decide (n ≤ g.2))) H4
                rw [← this]
                exact k4 H4 (Same.refl _)
              · have : inB2 g n = false := by unfold inB2; rw [Bool.eq_false_iff.mpr c1]; rfl
                rw [← this]
                exact k4 H4 (Same.refl _)
          · refine ⟨G2, _, rfl, SqL.of eG2, ?_⟩
            rw [List.any_map]
            exact k H5 s5
        · refine ⟨G, _, rfl, SqL.of eG, _, rfl, ?_⟩
          have eh : (rs.map fun r => row.any (inB2 r)).all id = hitB rs row := by
            rw [List.all_map]
            rfl
          have et : ((((rowsF (nums ps.length)).take (i + 1)).filter (hitB rs)).map (costF (prF ps))) = ((((rowsF (nums ps.length)).take i).filter (hitB rs)).map (costF (prF ps))) ++ (if hitB rs row = true then [costF (prF ps) row] else []) := by
            rw [List.take_add_one, er, List.filter_append, List.map_append]
            show _ ++ (List.filter (hitB rs) [row]).map _ = _
            by_cases c : hitB rs row = true <;> simp [c]
          have eC3 := s3 _ _ eC
          refine ite2 (fun c1 => ?_) (fun c1 => ?_)
          · have c1 : (rs.map fun r => row.any (inB2 r)).all id = true := c1
            rw [eh] at c1
            refine ⟨_, rfl, .inl ⟨rfl, _, SqL.of eC3⟩, _, rfl, C, _, _, rfl, rfl, eC3, small1000 ?_, ?_⟩
            · rw [List.length_map, List.length_map]
              exact Nat.le_trans (List.length_filter_le ..) (by rw [List.length_take]; omega)
            · refine ⟨_, _, _, _, _, _, rfl, fun b' o e => ?_, ?_⟩
              · rw [upd_ne (ne_of_none e nC)]
                exact s3 _ _ (sy b' o e)
              · show upd _ _ _ _ = _
                rw [upd_same, et, if_pos c1, List.map_append]
                rfl
          · have c1 : ¬ (rs.map fun r => row.any (inB2 r)).all id = true := c1
            rw [eh] at c1
            refine ⟨_, _, _, _, _, _, rfl, sy.trans s3, ?_⟩
            show _ = _
            rw [et, if_neg c1, List.append_nil]
            exact eC3
      · obtain ⟨y3, y4, y5, y6, y8, y9, rfl, sy, eC⟩ := hP
        rw [hR.1, List.take_length] at eC
        refine ⟨_, rfl, C, _, rfl, SqL.of eC, ?_, fun m hm hmin => q m _ (sm.trans sy) hm hmin⟩
        have hm : nums ps.length ∈ (rowsF (nums ps.length)).filter (hitB rs) := by
          refine List.mem_filter.mpr ⟨?_, ?_⟩
          · have := rows_filter (nums ps.length) fun _ => true
            rwa [List.filter_eq_self.mpr fun _ _ => rfl] at this
          · unfold hitB
            refine List.all_eq_true.mpr fun r hr => List.any_eq_true.mpr ⟨r.1, ?_, inB2_iff.mpr ⟨Int.le_refl _, (hr0 r hr).2.1⟩⟩
            have := hr0 r hr
            exact nums_mem.mpr ⟨this.1, by omega⟩
        exact List.length_pos_of_mem (List.mem_map_of_mem hm)
end

open LamX
/-! ### the law of k44 -/
theorem rows_inc {fr ns : List Int} (hf : fr.Pairwise (· < ·)) (hn : ns.Pairwise (· < ·)) (h : ∀ e ∈ ns, e ∈ fr) : ns ∈ rowsF fr := by
  have e : fr.filter (fun x => decide (x ∈ ns)) = ns := inc_eq (List.Pairwise.filter _ hf) hn fun x => by
    rw [List.mem_filter, decide_eq_true_iff]
    exact ⟨fun z => z.2, fun z => ⟨h x z, z⟩⟩
  rw [← e]
  exact rows_filter fr _
theorem tabS_kp {H H' : Hp} {P : Addr} {q : Str} {d c : Addr} {t : Int} (h : TabS H P q) (S : StAt H d c t) (k : Kp d c H H') : TabS H' P q := by
  obtain ⟨ps, hP, ht, hc⟩ := h
  obtain ⟨cs, ec, _⟩ := S.cells
  refine ⟨ps, k _ _ (ne_of hP S.dict (fun z => nomatch z)) (ne_of hP ec (fun z => nomatch z)) hP, ht, fun pos cv hcv => ?_⟩
  obtain ⟨x, ex, hx⟩ := hc pos cv hcv
  exact ⟨x, ex, k _ _ (ne_of hx S.dict (fun z => by unfold CodeO at z; cases z)) (ne_of hx ec (fun z => by unfold CodeO at z; cases z)) hx⟩
theorem rows_sub0 : ∀ (fr : List Int) (acc : List (List Int)) (row : List Int), row ∈ fr.foldl (fun some n => some ++ some.map (· ++ [n])) acc → ∃ r ∈ acc, ∃ s, row = r ++ s ∧ s.Sublist fr
  | [], _, row, h => ⟨row, h, [], by simp, .slnil⟩
  | n :: fr, acc, row, h => by
    obtain ⟨r, hr, s, e, hs⟩ := rows_sub0 fr _ row h
    rcases List.mem_append.mp hr with z | z
    · exact ⟨r, z, s, e, hs.cons _⟩
    · obtain ⟨r', hr', rfl⟩ := List.mem_map.mp z
      exact ⟨r', hr', n :: s, by rw [e]; simp, hs.cons₂ _⟩
theorem rows_sub {fr row : List Int} (h : row ∈ rowsF fr) : row.Sublist fr := by
  obtain ⟨r, hr, s, rfl, hs⟩ := rows_sub0 fr _ row h
  rw [List.mem_singleton.mp hr]
  exact hs
theorem nums_inc (n : Nat) : (nums n).Pairwise (· < ·) := by
  unfold nums
  rw [List.pairwise_map]
  exact List.Pairwise.imp (fun h => by omega) List.pairwise_lt_range
theorem fall_inc : ∀ {l : List Int} {s : Int}, Fall s l → l.Pairwise (· > ·)
  | [], _, _ => .nil
  | x :: l, s, h => List.pairwise_cons.mpr ⟨fun y hy => by have := Fall.lt h.2.2 y hy; omega, fall_inc h.2.2⟩
theorem inc_fall : ∀ {l : List Int} {s : Int}, l.Pairwise (· > ·) → (∀ x ∈ l, 0 ≤ x ∧ x + 1 < s) → Fall s l
  | [], _, _, _ => trivial
  | x :: l, s, h, b => by
    obtain ⟨h1, h2⟩ := List.pairwise_cons.mp h
    obtain ⟨b1, b2⟩ := b x (List.mem_cons_self ..)
    exact ⟨b2, b1, inc_fall h2 fun y hy => ⟨(b y (List.mem_cons_of_mem _ hy)).1, by have := h1 y hy; omega⟩⟩
theorem cost_is {ps : List Int} {rs : List (Int × Int)} (hr : RunIn ps.length rs) {pre : List Int} (hW : Way rs ((ps.length : Int) + 1) pre) (hM : ∀ l', Way rs ((ps.length : Int) + 1) l' → costF (prF ps) pre ≤ costF (prF ps) l') {m : Int} (h1 : m ∈ costsF ps rs) (h2 : ∀ c ∈ costsF ps rs, m ≤ c) : costF (prF ps) pre = m := by
  have h0 : ∀ r ∈ rs, 0 ≤ r.1 := fun r h => (hr r h).1
  have a1 : m ≤ costF (prF ps) pre := by
    rw [← costF_rev]
    refine h2 _ (List.mem_map_of_mem (List.mem_filter.mpr ⟨rows_inc (nums_inc _) ?_ fun e he => ?_, ?_⟩))
    · rw [List.pairwise_reverse]
      exact fall_inc hW.fall
    · have he := List.mem_reverse.mp he
      have := hW.fall.lt e he
      exact nums_mem.mpr ⟨hW.nn e he, by omega⟩
    · unfold hitB
      refine List.all_eq_true.mpr fun r h => ?_
      obtain ⟨x, hx, e1, e2⟩ := hW.hit h0 r h (by have := hr r h; omega)
      exact List.any_eq_true.mpr ⟨x, List.mem_reverse.mpr hx, inB2_iff.mpr ⟨e1, e2⟩⟩
  have a2 : costF (prF ps) pre ≤ m := by
    obtain ⟨row, hrow, rfl⟩ := List.mem_map.mp h1
    obtain ⟨hm, hh⟩ := List.mem_filter.mp hrow
    rw [← costF_rev (prF ps) row]
    refine hM _ (Way.of h0 (inc_fall ?_ fun x hx => ?_) fun r h _ => ?_)
    · rw [List.pairwise_reverse]
      exact (nums_inc _).sublist (rows_sub hm)
    · have := nums_mem.mp (rows_mem hm x (List.mem_reverse.mp hx))
      omega
    · unfold hitB at hh
      obtain ⟨x, hx, e⟩ := List.any_eq_true.mp (List.all_eq_true.mp hh r h)
      exact ⟨x, List.mem_reverse.mpr hx, inB2_iff.mp e⟩
  omega
theorem tabGk {H H' : Hp} {P : Addr} {d c : Addr} {t : Int} (h : GxR.TabG H P) (S : StAt H d c t) (k : Kp d c H H') : GxR.TabG H' P := by
  obtain ⟨ps, hP, ht⟩ := h
  obtain ⟨cs, ec, _⟩ := S.cells
  exact ⟨ps, k _ _ (ne_of hP S.dict (fun z => nomatch z)) (ne_of hP ec (fun z => nomatch z)) hP, ht⟩
theorem tabG_ext {H H' : Hp} {P : Addr} (h : GxR.TabG H P) (s : Same H H') : GxR.TabG H' P := by
  obtain ⟨ps, hP, ht⟩ := h
  exact ⟨ps, s _ _ hP, ht⟩
theorem StAt.notab {H H2 : Hp} {d c : Addr} {t : Int} (S : StAt H d c t) (x : NoTab H H2) : StAt H2 d c t := by
  obtain ⟨cs, ec, r⟩ := S.cells
  exact ⟨x _ _ S.dict (fun _ z => nomatch z), ⟨cs, x _ _ ec (fun _ z => nomatch z), r⟩, S.pos⟩
def spLaw (K : PySem.W.Frag) (Pc Pt : Addr) : Sp := fun vs H Q _ => ∃ (a : Addr) (ns : List Int), vs = [.ref a] ∧ SqL K H a (ns.map V.int) ∧ ns.length ≤ 63 ∧ Pc ≠ Pt ∧ GxR.TabG H Pc ∧ TabS H Pt qD ∧ ∀ H', Q (.bl true) H'
abbrev sLaw : Stmt := topS 13
theorem scLaw : FnScope ["_law_script", "_law_state", "_law_turn", "_law_prices_here", "_law_runs_here", "_law_found"] ["_law_script"] (defScope sLaw) := ⟨rfl, rfl, rfl, by decide +kernel, rfl, by decide +kernel, by decide +kernel⟩
section
variable {K : PySem.W.Frag} {mg : Str → Option Value} {P : Program} {w : World} {base : Heap} {Pc Pt : Addr}
theorem ok_Law {f : Addr} {fd : FuncData} (F : Fun K "law" "law" sLaw f fd) (C__law_begin : Cal P w K mg base 1 "_law_begin" ["_law_script"] (spBegin K)) (C__law_price_case : Cal P w K mg base 4 "_law_price_case" ["_law_state", "_law_many", "_law_most"] spCase) (C_least_cost : Cal P w K mg base 5 "least_cost" ["prices", "runs"] (spCost K Pc Pt)) (C__law_cheapest : Cal P w K mg base 1 "_law_cheapest" ["_law_prices_here", "_law_runs_here"] (spCheap K)) (m_range : mg "range" = none) (m_list : mg "list" = none) (m_isinstance : mg "isinstance" = none) (m_bool : mg "bool" = none) (m_int : mg "int" = none) : FnOk P w K mg base CX0 6 f fd ["_law_script"] (spLaw K Pc Pt) := by
  refine F.ok scLaw (fun vs H Q E h => ?_) (fun cdv A outer s H vs Q E hr h => ?_)
  · obtain ⟨a, ns, rfl, _⟩ := h
    rfl
  · obtain ⟨a, ns, rfl, hA, hl, hne, hG, hT, q⟩ := h
    refine ⟨_, pss_cons (ps_set (i := 1) scLaw.nd rfl (.inl rfl) (pe_own C__law_begin (hr.mono (show 1 ≤ 5 by decide)) (by rfl) (pa_cons (pv 0) pa_nil)))
      (pss_cons (ps_for PassesOwn.never rfl (pi_range1 rfl m_range (pa_cons pe_int pa_nil)) (pg_name (i := 2) scLaw.nd rfl (.inl rfl))
        (pss_cons (ps_asg (pe_own C__law_price_case (hr.mono (show 4 ≤ 5 by decide)) (by rfl) (pa_cons (pv 1) (pa_cons pe_int (pa_cons pe_int pa_nil)))) (pg_tup rfl (pgs_cons (pg_name (i := 3) scLaw.nd rfl (.inl rfl)) (pgs_cons (pg_name (i := 4) scLaw.nd rfl (.inl rfl)) pgs_nil))))
        (pss_cons (ps_set (i := 5) scLaw.nd rfl (.inl rfl) (pe_ix ix_tup (pe_own C_least_cost hr (by rfl) (pa_cons (pe_callTy call_list_of (by rfl) m_list (by decide +kernel) (pa_cons (pv 3) pa_nil)) (pa_cons (pe_callTy call_list_of (by rfl) m_list (by decide +kernel) (pa_cons (pv 4) pa_nil)) pa_nil))) pe_int (fun _ _ => rfl)))
        (pss_one (ps_if (PW.pt (pw_or (pt_val (pe_callB call_isi (by rfl) m_isinstance (by decide +kernel) (pa_cons (pv 5) (pa_cons (pe_bltn (v := .ty "bool") (by rfl) m_bool (by decide +kernel) rfl) pa_nil)))) (pw_or (pt_not (pt_val (pe_callB call_isi (by rfl) m_isinstance (by decide +kernel) (pa_cons (pv 5) (pa_cons (pe_bltn (v := .ty "int") (by rfl) m_int (by decide +kernel) rfl) pa_nil))))) (pw_or1 (pt_cmpR op_ne (pv 5) (pe_own C__law_cheapest (hr.mono (show 1 ≤ 5 by decide)) (by rfl) (pa_cons (pv 3) (pa_cons (pv 4) pa_nil))) (nomark _)))))) (pss_one (ps_ret pe_bl))
          pss_nil)))))
      (pss_one (ps_ret pe_bl))), ?_⟩
    refine ⟨.ref a, rfl, a, ns, rfl, hA, hl, fun d c H1 s1 nd nc hS1 => ?_⟩
    refine ⟨4, rfl, by decide, by decide, for_range (n := 4) (fun i σ Hx => ∃ (t : Int) (y2 y3 y4 y5 : Option V), σ = [some (.ref a), some (.ref d), y2, y3, y4, y5] ∧ 0 ≤ t ∧ t ≤ 1000 * (i : Int) ∧ StAt Hx d c t ∧ GxR.TabG Hx Pc ∧ TabS Hx Pt qD) ⟨0, _, _, _, _, rfl, by decide, by decide, hS1, tabG_ext hG s1, hT.ext s1⟩ (fun i σ Hx hi hP => ?_) (fun σ Hx hP => ?_)⟩
    · obtain ⟨t, y2, y3, y4, y5, rfl, u0, u1, hS, hGx, hTx⟩ := hP
      have hi' : (i : Int) < 4 := by omega
      refine ⟨_, rfl, d, c, t, 9, 7, rfl, hS, by omega, by decide, by decide, by decide, by decide, fun T l r ps rs t2 H2 eT eL eR p1 p9 r7 hro offl offr w0 w1 hS2 k2 => ?_⟩
      refine ⟨T, _, rfl, .inl (.inl eT), rfl, _, _, rfl, _, _, rfl, rfl, ?_⟩
      have hG2 := tabGk hGx hS k2
      have hT2 := tabS_kp hTx hS k2
      refine ⟨_, rfl, l, _, rfl, .inl (SqL.of eL), fun l1 nl1 => ?_⟩
      have sl1 := same_upd (o := .lst (ps.map V.int)) nl1
      obtain ⟨ur, er, pr⟩ := id eR
      refine ⟨_, rfl, r, _, rfl, .inl (SqL.of (sl1 _ _ er)), fun l2 nl2 => ?_⟩
      have sl2 := same_upd (o := .lst ur) nl2
      have s12 := sl1.trans sl2
      refine ⟨l1, l2, ps, rs, rfl, sl2 _ _ upd_same, ⟨ur, upd_same, pr.same s12⟩, by omega, by omega, hro, hne, tabG_ext hG2 s12, hT2.ext s12, fun H3 T3 L3 D3 pre hG3 hT3 n3 eT3 hW hM => ?_⟩
      refine ⟨T3, _, 0, _, rfl, rfl, .inl (.inl eT3), atI_nat (j := 0) rfl, ?_⟩
      have n13 := (NoTab.of s12).trans n3
      refine ⟨_, rfl, _, _, .type "int", .type "bool", false, rfl, .ty _, .base (.int _), kit_ty (by decide +kernel), _, rfl, iteF ?_⟩
      refine ⟨_, rfl, _, _, .type "int", .type "int", true, rfl, .ty _, .base (.int _), kit_ty (by decide +kernel), _, rfl, iteF ?_⟩
      refine ⟨_, rfl, _, rfl, _, rfl, l, r, ps, rs, rfl, n13.ints eL, n13.prs eR, by omega, by omega, hro, fun m H4 s4 hm hmin => ?_⟩
      have em := cost_is hro hW hM hm hmin
      refine ⟨rfl, _, rfl, ite2 (fun z => ?_) (fun _ => ?_)⟩
      · have z : (!decide (V.int (costF (prF ps) pre) = V.int m)) = true := z
        rw [em, decide_eq_true rfl] at z
        cases z
      · exact ⟨t2, _, _, _, _, rfl, by omega, by omega, (hS2.notab n13).same s4, tabG_ext hG3 s4, hT3.ext s4⟩
    · exact q Hx
end

/-! ### the end: what the top has left, the tables of code objects among it -/
/-- each def of the text has a code object with an empty table -/
def Tabs (q : Program) (mg : Str → Option Value) (h : Heap) : Prop := ∀ dr ∈ recsOf q, ∃ (f : Addr) (o : Obj) (fd : FuncData) (c P : Addr), mg dr.name = some (.ref f) ∧ h.get? f = some o ∧ o.data = .func fd ∧ fd.code = .ref c ∧ PySem.W.CodeHd h c P ∧ h.get? P = some (PySem.W.tabObj #[])
theorem tab_in {q : Program} {mg : Str → Option Value} {h : Heap} {K : PySem.W.Frag} {y : Str} {f c P : Addr} {oc e : Value} {od dd : Option Addr} {fd : FuncData} {osl sl : Array (Option Value)} {vs : Array Value} (TT : Tabs q mg h) (X : K.In h) (rec : ((recsOf q).any fun r => r.name == y) = true)
    (g : mg y = some (.ref f)) (lf : K.lookup f = some ⟨oc, od, .func fd, osl⟩) (hc : fd.code = .ref c) (lc : K.lookup c = some ⟨e, dd, .fields vs, sl⟩) (v : vs[11]? = some (.ref P)) : PySem.W.CodeHd h c P ∧ h.get? P = some (PySem.W.tabObj #[]) := by
  obtain ⟨dr, mem, nm⟩ := List.any_eq_true.mp rec
  obtain ⟨f', o', fd', c', P', t1, t2, t3, t4, t5, t6⟩ := TT dr mem
  have ef : f' = f := by
    rw [beq_iff_eq.mp nm, g] at t1
    exact (Value.ref.inj (Option.some.inj t1)).symm
  rw [ef, X _ _ lf] at t2
  rw [← Option.some.inj t2] at t3
  have efd : fd = fd' := Data.func.inj t3
  rw [← efd, hc] at t4
  have ec : c = c' := Value.ref.inj t4
  rw [← ec] at t5
  have t5' := t5
  obtain ⟨oc', us, _, _, _, _, _, _, _, u1, _, u3, u4, _⟩ := t5'
  rw [X _ _ lc] at u1
  rw [← Option.some.inj u1] at u3
  have eu : vs = us := Data.fields.inj u3
  rw [← eu, v] at u4
  have eP : P = P' := Value.ref.inj (Option.some.inj u4)
  rw [eP]
  exact ⟨t5, t6⟩
theorem law_end {l : PySem.W.OpenLaw} {k : Nat} {q : Program} {loose : List Str} {XP : (Str → Option Value) → Heap → Prop} {YP : World → Heap → Prop} {d : DefRec} {K : Params → PySem.W.Frag} (most : l.most = some 63) (plain : d.params.defaults = []) (room : Room k callerA)
    (part : ∀ w h, YP w h → (K w.params).In h) (made : ∀ (w : World) (mg : Str → Option Value) (f : Addr) (h : Heap), (K w.params).In h → h.Ns mainGlobals mg → mg d.name = some (.ref f) → Tabs q mg h → LamX.LawAtS l w (K w.params) CX0 k 63 "_law_script" mg f h) : PySem.W.WalkO q loose XP YP l.row.toRowW d [] (fun f vs => PySem.call f vs) := by
  refine Att.attach_callB most plain ?_
  intro w _ s₁ mg _ f _ _ _ _ a vs ns ground said _ _ _ name script nums len size still
  have X := part w _ said
  have tabs : Tabs q mg s₁.heap := fun dr mem => by
    obtain ⟨f', o', fd', c', P', t1, t2, t3, t4, t5, t6⟩ := ground.T.tab dr mem
    exact ⟨f', o', fd', c', P', t1, t2, t3, t4, PySem.W.CodeHd.of t5 t6, t6.2⟩
  obtain ⟨fd, cs, sp, e1, e2, e3, e4, e5, e6⟩ := made w mg f _ X ground.T.g name tabs
  exact LamX.law_callTs X ground.T.g ground.T.b ground.T.builtins ground.T.nolimit still e1 e2 e3 ground.T.bmain script nums (Nat.le_trans len (by decide)) room e6 e4 (fun H z1 z2 => e5 H a ns len size z1 z2) fun _ _ _ z => z

theorem all_mk {l : PySem.W.OpenLaw} {q : Program} {w : World} {K : PySem.W.Frag} {h : Heap} {mg : Str → Option Value} {fa f0 f1 f2 f3 f4 f5 f6 f7 f8 f9 f10 f11 : Addr} {c2 P2 c3 P3 : Addr} (X : K.In h) (G : h.Ns mainGlobals mg) (hfa : mg "law" = some (.ref fa)) (TT : Tabs q mg h)
    {od0 an0 od1 an1 od2 an2 od3 an3 od4 an4 od5 an5 od6 an6 od7 an7 od8 an8 od9 an9 od10 an10 od11 an11 : Option Addr} {sl0 sl1 sl2 sl3 sl4 sl5 sl6 sl7 sl8 sl9 sl10 sl11 : Array (Option Value)} {oc0 kV0 dc0 pm0 ct0 cd0 oc1 kV1 dc1 pm1 ct1 cd1 oc2 kV2 dc2 pm2 ct2 oc3 kV3 dc3 pm3 ct3 oc4 kV4 dc4 pm4 ct4 cd4 oc5 kV5 dc5 pm5 ct5 cd5 oc6 kV6 dc6 pm6 ct6 cd6 oc7 kV7 dc7 pm7 ct7 cd7 oc8 kV8 dc8 pm8 ct8 cd8 oc9 kV9 dc9 pm9 ct9 cd9 oc10 kV10 dc10 pm10 ct10 cd10 oc11 kV11 dc11 pm11 ct11 cd11 : Value}
    {e2 : Value} {dd2 : Option Addr} {vs2 : Array Value} {sc2 : Array (Option Value)} {e3 : Value} {dd3 : Option Addr} {vs3 : Array Value} {sc3 : Array (Option Value)}
    (a0 : PySem.W.nsIn K mainGlobals "furthest_back" = some (some (.ref f0))) (l0 : K.lookup f0 = some ⟨oc0, od0, .func (PySem.W.fnOf "furthest_back" "furthest_back" (defArgs sBacks) (defBody sBacks) (defScope sBacks) .none kV0 dc0 pm0 an0 cd0 ct0), sl0⟩) (c0' : PySem.W.codeIn K cd0 "furthest_back" = true) (k0 : PySem.W.keepIn K (.ref f0) = true)
    (a1 : PySem.W.nsIn K mainGlobals "least_places" = some (some (.ref f1))) (l1 : K.lookup f1 = some ⟨oc1, od1, .func (PySem.W.fnOf "least_places" "least_places" (defArgs sPlaces) (defBody sPlaces) (defScope sPlaces) .none kV1 dc1 pm1 an1 cd1 ct1), sl1⟩) (c1' : PySem.W.codeIn K cd1 "least_places" = true) (k1 : PySem.W.keepIn K (.ref f1) = true)
    (a2 : PySem.W.nsIn K mainGlobals "most_dues" = some (some (.ref f2))) (l2 : K.lookup f2 = some ⟨oc2, od2, .func (PySem.W.fnOf "most_dues" "most_dues" (defArgs sDues) (defBody sDues) (defScope sDues) .none kV2 dc2 pm2 an2 (.ref c2) ct2), sl2⟩) (c2' : PySem.W.codeIn K (.ref c2) "most_dues" = true) (k2 : PySem.W.keepIn K (.ref f2) = true)
    (a3 : PySem.W.nsIn K mainGlobals "least_cost" = some (some (.ref f3))) (l3 : K.lookup f3 = some ⟨oc3, od3, .func (PySem.W.fnOf "least_cost" "least_cost" (defArgs sCost) (defBody sCost) (defScope sCost) .none kV3 dc3 pm3 an3 (.ref c3) ct3), sl3⟩) (c3' : PySem.W.codeIn K (.ref c3) "least_cost" = true) (k3 : PySem.W.keepIn K (.ref f3) = true)
    (a4 : PySem.W.nsIn K mainGlobals "_law_begin" = some (some (.ref f4))) (l4 : K.lookup f4 = some ⟨oc4, od4, .func (PySem.W.fnOf "_law_begin" "_law_begin" (defArgs sBegin) (defBody sBegin) (defScope sBegin) .none kV4 dc4 pm4 an4 cd4 ct4), sl4⟩) (c4' : PySem.W.codeIn K cd4 "_law_begin" = true) (k4 : PySem.W.keepIn K (.ref f4) = true)
    (a5 : PySem.W.nsIn K mainGlobals "_law_take" = some (some (.ref f5))) (l5 : K.lookup f5 = some ⟨oc5, od5, .func (PySem.W.fnOf "_law_take" "_law_take" (defArgs sTake) (defBody sTake) (defScope sTake) .none kV5 dc5 pm5 an5 cd5 ct5), sl5⟩) (c5' : PySem.W.codeIn K cd5 "_law_take" = true) (k5 : PySem.W.keepIn K (.ref f5) = true)
    (a6 : PySem.W.nsIn K mainGlobals "_law_great" = some (some (.ref f6))) (l6 : K.lookup f6 = some ⟨oc6, od6, .func (PySem.W.fnOf "_law_great" "_law_great" (defArgs sGreat) (defBody sGreat) (defScope sGreat) .none kV6 dc6 pm6 an6 cd6 ct6), sl6⟩) (c6' : PySem.W.codeIn K cd6 "_law_great" = true) (k6 : PySem.W.keepIn K (.ref f6) = true)
    (a7 : PySem.W.nsIn K mainGlobals "_law_runs" = some (some (.ref f7))) (l7 : K.lookup f7 = some ⟨oc7, od7, .func (PySem.W.fnOf "_law_runs" "_law_runs" (defArgs sRuns) (defBody sRuns) (defScope sRuns) .none kV7 dc7 pm7 an7 cd7 ct7), sl7⟩) (c7' : PySem.W.codeIn K cd7 "_law_runs" = true) (k7 : PySem.W.keepIn K (.ref f7) = true)
    (a8 : PySem.W.nsIn K mainGlobals "_law_prices" = some (some (.ref f8))) (l8 : K.lookup f8 = some ⟨oc8, od8, .func (PySem.W.fnOf "_law_prices" "_law_prices" (defArgs sPrices) (defBody sPrices) (defScope sPrices) .none kV8 dc8 pm8 an8 cd8 ct8), sl8⟩) (c8' : PySem.W.codeIn K cd8 "_law_prices" = true) (k8 : PySem.W.keepIn K (.ref f8) = true)
    (a9 : PySem.W.nsIn K mainGlobals "_law_price_case" = some (some (.ref f9))) (l9 : K.lookup f9 = some ⟨oc9, od9, .func (PySem.W.fnOf "_law_price_case" "_law_price_case" (defArgs sCase) (defBody sCase) (defScope sCase) .none kV9 dc9 pm9 an9 cd9 ct9), sl9⟩) (c9' : PySem.W.codeIn K cd9 "_law_price_case" = true) (k9 : PySem.W.keepIn K (.ref f9) = true)
    (a10 : PySem.W.nsIn K mainGlobals "_law_cheapest" = some (some (.ref f10))) (l10 : K.lookup f10 = some ⟨oc10, od10, .func (PySem.W.fnOf "_law_cheapest" "_law_cheapest" (defArgs sCheap) (defBody sCheap) (defScope sCheap) .none kV10 dc10 pm10 an10 cd10 ct10), sl10⟩) (c10' : PySem.W.codeIn K cd10 "_law_cheapest" = true) (k10 : PySem.W.keepIn K (.ref f10) = true)
    (a11 : PySem.W.nsIn K mainGlobals "law" = some (some (.ref f11))) (l11 : K.lookup f11 = some ⟨oc11, od11, .func (PySem.W.fnOf "law" "law" (defArgs sLaw) (defBody sLaw) (defScope sLaw) .none kV11 dc11 pm11 an11 cd11 ct11), sl11⟩) (c11' : PySem.W.codeIn K cd11 "law" = true) (k11 : PySem.W.keepIn K (.ref f11) = true)
    (lc2 : K.lookup c2 = some ⟨e2, dd2, .fields vs2, sc2⟩) (v2 : vs2[11]? = some (.ref P2)) (nP2 : K.lookup P2 = none) (r2 : ((recsOf q).any fun e => e.name == ("most_dues" : Str)) = true)
    (lc3 : K.lookup c3 = some ⟨e3, dd3, .fields vs3, sc3⟩) (v3 : vs3[11]? = some (.ref P3)) (nP3 : K.lookup P3 = none) (r3 : ((recsOf q).any fun e => e.name == ("least_cost" : Str)) = true)
    (x_PP : P3 ≠ P2)
    (z_all : PySem.W.nsIn K mainGlobals "all" = some none) (z_any : PySem.W.nsIn K mainGlobals "any" = some none) (z_bool : PySem.W.nsIn K mainGlobals "bool" = some none) (z_divmod : PySem.W.nsIn K mainGlobals "divmod" = some none) (z_enumerate : PySem.W.nsIn K mainGlobals "enumerate" = some none) (z_int : PySem.W.nsIn K mainGlobals "int" = some none) (z_isinstance : PySem.W.nsIn K mainGlobals "isinstance" = some none) (z_len : PySem.W.nsIn K mainGlobals "len" = some none) (z_list : PySem.W.nsIn K mainGlobals "list" = some none) (z_max : PySem.W.nsIn K mainGlobals "max" = some none) (z_min : PySem.W.nsIn K mainGlobals "min" = some none) (z_range : PySem.W.nsIn K mainGlobals "range" = some none) (z_sorted : PySem.W.nsIn K mainGlobals "sorted" = some none) (z_sum : PySem.W.nsIn K mainGlobals "sum" = some none) :
    LamX.LawAtS l w K CX0 6 63 "_law_script" mg fa h := by
  cases hfa.symm.trans (PySem.W.mg_of X G a11)
  have F0 := fun_mk (st := sBacks) l0 c0' k0
  have b0 := F0.binds (ps := ["many", "runs"]) fun _ _ _ _ _ _ us hl => match us, hl with | [_, _], _ => rfl
  have F1 := fun_mk (st := sPlaces) l1 c1' k1
  have b1 := F1.binds (ps := ["prices", "runs"]) fun _ _ _ _ _ _ us hl => match us, hl with | [_, _], _ => rfl
  have F2 := fun_mk (st := sDues) l2 c2' k2
  have b2 := F2.binds (ps := ["prices", "runs"]) fun _ _ _ _ _ _ us hl => match us, hl with | [_, _], _ => rfl
  have F3 := fun_mk (st := sCost) l3 c3' k3
  have b3 := F3.binds (ps := ["prices", "runs"]) fun _ _ _ _ _ _ us hl => match us, hl with | [_, _], _ => rfl
  have F4 := fun_mk (st := sBegin) l4 c4' k4
  have b4 := F4.binds (ps := ["_law_script"]) fun _ _ _ _ _ _ us hl => match us, hl with | [_], _ => rfl
  have F5 := fun_mk (st := sTake) l5 c5' k5
  have b5 := F5.binds (ps := ["_law_state", "_law_many"]) fun _ _ _ _ _ _ us hl => match us, hl with | [_, _], _ => rfl
  have F6 := fun_mk (st := sGreat) l6 c6' k6
  have b6 := F6.binds (ps := ["_law_state"]) fun _ _ _ _ _ _ us hl => match us, hl with | [_], _ => rfl
  have F7 := fun_mk (st := sRuns) l7 c7' k7
  have b7 := F7.binds (ps := ["_law_state", "_law_many", "_law_most", "_law_wide"]) fun _ _ _ _ _ _ us hl => match us, hl with | [_, _, _, _], _ => rfl
  have F8 := fun_mk (st := sPrices) l8 c8' k8
  have b8 := F8.binds (ps := ["_law_state", "_law_many"]) fun _ _ _ _ _ _ us hl => match us, hl with | [_, _], _ => rfl
  have F9 := fun_mk (st := sCase) l9 c9' k9
  have b9 := F9.binds (ps := ["_law_state", "_law_many", "_law_most"]) fun _ _ _ _ _ _ us hl => match us, hl with | [_, _, _], _ => rfl
  have F10 := fun_mk (st := sCheap) l10 c10' k10
  have b10 := F10.binds (ps := ["_law_prices_here", "_law_runs_here"]) fun _ _ _ _ _ _ us hl => match us, hl with | [_, _], _ => rfl
  have F11 := fun_mk (st := sLaw) l11 c11' k11
  have m_all := PySem.W.mg_none_of X G z_all
  have m_any := PySem.W.mg_none_of X G z_any
  have m_bool := PySem.W.mg_none_of X G z_bool
  have m_divmod := PySem.W.mg_none_of X G z_divmod
  have m_enumerate := PySem.W.mg_none_of X G z_enumerate
  have m_int := PySem.W.mg_none_of X G z_int
  have m_isinstance := PySem.W.mg_none_of X G z_isinstance
  have m_len := PySem.W.mg_none_of X G z_len
  have m_list := PySem.W.mg_none_of X G z_list
  have m_max := PySem.W.mg_none_of X G z_max
  have m_min := PySem.W.mg_none_of X G z_min
  have m_range := PySem.W.mg_none_of X G z_range
  have m_sorted := PySem.W.mg_none_of X G z_sorted
  have m_sum := PySem.W.mg_none_of X G z_sum
  have tb2 := tab_in TT X r2 (PySem.W.mg_of X G a2) l2 rfl lc2 v2
  have tb3 := tab_in TT X r3 (PySem.W.mg_of X G a3) l3 rfl lc3 v3
  refine ⟨PySem.W.fnOf "law" "law" (defArgs sLaw) (defBody sLaw) (defScope sLaw) .none kV11 dc11 pm11 an11 cd11 ct11, [(c2, P2), (c3, P3)], spLaw K P3 P2, List.forall_mem_cons.mpr ⟨tb2.2, List.forall_mem_cons.mpr ⟨tb3.2, fun _ z => nomatch z⟩⟩, List.forall_mem_cons.mpr ⟨nP2, List.forall_mem_cons.mpr ⟨nP3, fun _ z => nomatch z⟩⟩, List.forall_mem_cons.mpr ⟨tb2.1, List.forall_mem_cons.mpr ⟨tb3.1, fun _ z => nomatch z⟩⟩, fun s v => .of_eq rfl, fun H a ns hl _ hH hS => ?_, fun base _ _ TB => ?_⟩
  · have hT2 : GxR.TabG H P2 := ⟨#[], hH (c2, P2) (List.mem_cons_self ..), trivial⟩; have hT3 : GxR.TabG H P3 := ⟨#[], hH (c3, P3) (List.mem_cons_of_mem _ (List.mem_cons_self ..)), trivial⟩; exact ⟨a, ns, rfl, hS, hl, x_PP, hT3, LamX.TabS.nil (hH (c2, P2) (by simp)), fun _ => rfl⟩
  · have g := fun {x : Str} {f : Addr} (a : PySem.W.nsIn K mainGlobals x = some (some (.ref f))) => PySem.W.mg_of X G a
    have T2 : GxR.TabB base mg c2 P2 := let t := TB (c2, P2) (List.mem_cons_self ..); ⟨t.code, t.bm, t.gP⟩
    have T3 : GxR.TabB base mg c3 P3 := let t := TB (c3, P3) (List.mem_cons_of_mem _ (List.mem_cons_self ..)); ⟨t.code, t.bm, t.gP⟩
    have CT : Cal l.prog w K mg base 1 "_law_take" ["_law_state", "_law_many"] spTake := ⟨_, _, ok_take F5 m_len m_divmod, g a5, k5, b5⟩
    have CB : Cal l.prog w K mg base 1 "_law_begin" ["_law_script"] (spBegin K) := ⟨_, _, ok_begin F4 m_list, g a4, k4, b4⟩
    have FB : Cal l.prog w K mg base 1 "furthest_back" ["many", "runs"] (spBacks K) := ⟨_, _, ok_Backs F0 m_max m_range, g a0, k0, b0⟩
    have LP : Cal l.prog w K mg base 2 "least_places" ["prices", "runs"] (spPlaces K) := ⟨_, _, ok_Places F1 FB m_len m_enumerate m_range m_min, g a1, k1, b1⟩
    have MD : Cal l.prog w K mg base 4 "most_dues" ["prices", "runs"] (spDues K P2) := ⟨_, _, ok_Dues l2 c2' ⟨T2.code, T2.bm, T2.gP⟩ m_list m_len m_sorted m_range m_min, g a2, k2, b2⟩
    have LC : Cal l.prog w K mg base 5 "least_cost" ["prices", "runs"] (spCost K P3 P2) := ⟨_, _, ok_Cost l3 c3' T3 LP MD m_sum, g a3, k3, b3⟩
    have GR : Cal l.prog w K mg base 2 "_law_great" ["_law_state"] spGreat := ⟨_, _, ok_great F6 CT m_range, g a6, k6, b6⟩
    have RU : Cal l.prog w K mg base 2 "_law_runs" ["_law_state", "_law_many", "_law_most", "_law_wide"] spRuns := ⟨_, _, ok_Runs F7 CT m_range m_min m_len, g a7, k7, b7⟩
    have PR : Cal l.prog w K mg base 3 "_law_prices" ["_law_state", "_law_many"] spPrices := ⟨_, _, ok_Prices F8 CT GR m_range, g a8, k8, b8⟩
    have CA : Cal l.prog w K mg base 4 "_law_price_case" ["_law_state", "_law_many", "_law_most"] spCase := ⟨_, _, ok_Case F9 CT PR RU, g a9, k9, b9⟩
    have CH : Cal l.prog w K mg base 1 "_law_cheapest" ["_law_prices_here", "_law_runs_here"] (spCheap K) := ⟨_, _, ok_Cheap F10 m_enumerate m_any m_all m_min, g a10, k10, b10⟩
    exact ok_Law F11 CB CA LC CH m_range m_list m_isinstance m_bool m_int
end TK
open PySem PySem.W PyProof.Rows
set_option maxHeartbeats 0 in
theorem PySem.Challenge.cw_tinrecall_k44_least_costs_by_trying_holds : PySem.Challenge.rw_tinrecall_k44_least_costs_by_trying.Holds := by
  w_on; o_law; k_head; (case hw => w_witness2)
  k_fill
  refine TK.law_end (l := PySem.Challenge.rw_tinrecall_k44_least_costs_by_trying) (k := 6) rfl rfl ⟨rfl, by decide, by decide⟩ (fun w h Y => PySem.W.km_in_of Y) ?made
  case made =>
    intro w mg f h KX G hmg TT
    refine' TK.all_mk KX G hmg TT ?a0 ?l0 ?c0 ?k0 ?a1 ?l1 ?c1 ?k1 ?a2 ?l2 ?c2 ?k2 ?a3 ?l3 ?c3 ?k3 ?a4 ?l4 ?c4 ?k4 ?a5 ?l5 ?c5 ?k5 ?a6 ?l6 ?c6 ?k6 ?a7 ?l7 ?c7 ?k7 ?a8 ?l8 ?c8 ?k8 ?a9 ?l9 ?c9 ?k9 ?a10 ?l10 ?c10 ?k10 ?a11 ?l11 ?c11 ?k11 ?lc2 ?v2 ?nP2 ?r2 ?lc3 ?v3 ?nP3 ?r3 ?x_PP ?z_all ?z_any ?z_bool ?z_divmod ?z_enumerate ?z_int ?z_isinstance ?z_len ?z_list ?z_max ?z_min ?z_range ?z_sorted ?z_sum
    (case a0 => k_is); (case l0 => k_is); (case c0 => k_is); (case k0 => k_is)
    (case a1 => k_is); (case l1 => k_is); (case c1 => k_is); (case k1 => k_is)
    (case a2 => k_is); (case l2 => k_is); (case c2 => k_is); (case k2 => k_is)
    (case a3 => k_is); (case l3 => k_is); (case c3 => k_is); (case k3 => k_is)
    (case a4 => k_is); (case l4 => k_is); (case c4 => k_is); (case k4 => k_is)
    (case a5 => k_is); (case l5 => k_is); (case c5 => k_is); (case k5 => k_is)
    (case a6 => k_is); (case l6 => k_is); (case c6 => k_is); (case k6 => k_is)
    (case a7 => k_is); (case l7 => k_is); (case c7 => k_is); (case k7 => k_is)
    (case a8 => k_is); (case l8 => k_is); (case c8 => k_is); (case k8 => k_is)
    (case a9 => k_is); (case l9 => k_is); (case c9 => k_is); (case k9 => k_is)
    (case a10 => k_is); (case l10 => k_is); (case c10 => k_is); (case k10 => k_is)
    (case a11 => k_is); (case l11 => k_is); (case c11 => k_is); (case k11 => k_is)
    (case lc2 => k_is); (case v2 => exact rfl); (case nP2 => exact rfl); (case r2 => decide +kernel)
    (case lc3 => k_is); (case v3 => exact rfl); (case nP3 => exact rfl); (case r3 => decide +kernel)
    (case x_PP => decide)
    (case z_all => k_is); (case z_any => k_is); (case z_bool => k_is); (case z_divmod => k_is); (case z_enumerate => k_is); (case z_int => k_is); (case z_isinstance => k_is); (case z_len => k_is); (case z_list => k_is); (case z_max => k_is); (case z_min => k_is); (case z_range => k_is); (case z_sorted => k_is); (case z_sum => k_is)

