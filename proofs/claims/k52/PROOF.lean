import PyProof.Rows.All
import Wide.All
import OpenK.AllK
import Wide.FinOn
import HandS.ForMost
import HandS.WideBits
import HandS.IsInst
import HandS.Style
import HandS.AnyAll
import HandS.Nested
import HandS.Walk
import HandS.Evl
import HandS.EndTab
import HandS.SortInts
import HandS.SortRule
import HandS.Conv
import HandS.Star
import HandS.Codes
import HandS.Wide
import HandS.Zip
import HandS.DictComp
import HandS.SetFor
import HandS.SetKeys
import HandS.StrMore
import HandS.Replace
import PyProof.ReprRoads
import PyProof.ReprLen
import HandS.Small
import HandS.More
import KE.KDictPairs
import KE.GoesMore
import KE.GoesEnum
import PyProof.SumAny
import PyProof.WalksPairs
import PyProof.GenCompT
import HandS.GenList
import HandS.Lambda
import KE.SortKeyHeap
import HandS.Sort
import HandS.Conv
import HandS.ExcValue
import HandS.ExcOwn
import HandS.CallLocal
import HandS.SetKeys
import HandS.DictTup
import HandS.Dict
import PySem.Challenge.RW_tinrecall_k52_tells_and_what_lacks
set_option Elab.async false
set_option linter.all false
set_option maxRecDepth 100000
set_option maxHeartbeats 5000000
/-! ## sum(.. for a, b in ..): a generator expression over a list or a tuple of pairs of whole numbers -/
namespace GP
open PySem PySem.Spec PyProof.Rows L2 GxR

/-- a walk whose items are tuples that stand still -/
theorem asTuples {prog : Program} {w : World} {A : Around} {it : Addr} {foot : List Addr} {n : Nat} {Item : Nat → Value → Prop} {At : Nat → Heap → Prop} (W : Walks prog w A it foot [it] n Item At) (loc : Nat → Addr) (held : Nat → Array Value)
    (isT : ∀ j v, j < n → Item j v → v = .ref (loc j)) (apt : ∀ j, j < n → loc j ≠ it)
    (letGo : ∀ (es : List Expr) (k : Nat) (pos : Pos) (j : Nat) (T : Addr) (s : Shared) (Q : Unit → Shared → Prop) (E : Value → Shared → Prop), At j s.heap → Q () s → wpAny (model prog w) A (letOwnedTupleGo (.Tuple es k pos) (.ref it) (.ref T)) Q E s) :
    WalksU prog w A it (foot ++ (List.range n).map loc) [it] n (fun j xs => xs = held j) (fun j h => At j h ∧ ∀ m, m < n → h.IsTuple (loc m) (held m))
      (fun j T h => (j < n ∧ T = loc j) ∧ At (j + 1) h ∧ ∀ m, m < n → h.IsTuple (loc m) (held m)) := by
  have inFoot : ∀ m, m < n → loc m ∈ foot ++ (List.range n).map loc := fun m hm => List.mem_append.mpr (.inr (List.mem_map.mpr ⟨m, List.mem_range.mpr hm, rfl⟩))
  constructor
  case sub => exact fun b hb => List.mem_append.mpr (.inl (W.sub b hb))
  case frame =>
    intro j h h' ⟨a1, a2⟩ kept
    refine ⟨W.frame j h h' a1 fun b hb => kept b (List.mem_append.mpr (.inl hb)), fun m hm => ?_⟩
    obtain ⟨o, e, r⟩ := a2 m hm
    exact ⟨o, kept _ (inFoot m hm) o e, r⟩
  case item =>
    intro j s Q E hj ⟨a1, a2⟩ fin
    refine W.item j s Q E hj a1 fun v h' tk hv a1' kept => ?_
    have still : ∀ m, m < n → h'.IsTuple (loc m) (held m) := fun m hm => by
      obtain ⟨o, e, r⟩ := a2 m hm
      exact ⟨o, kept _ o (fun z => apt m hm (List.mem_singleton.mp z)) e, r⟩
    rw [isT j v hj hv]
    exact fin (loc j) (held j) h' tk rfl (still j hj) ⟨⟨hj, rfl⟩, a1', still⟩ kept
  case go =>
    intro es k pos j T s Q E hm fin
    exact letGo es k pos (j + 1) T s Q E hm.2.1 (fin s.heap hm.2 fun _ _ _ e => e)
  case apart =>
    intro j T h hm z
    rw [hm.1.2] at z
    exact apt j hm.1.1 (List.mem_singleton.mp z)
  case done => exact fun s Q E a fin => W.done s Q E a.1 fin
  case self => exact fun j s Q E a fin => W.self j s Q E a.1 fin

/-- the values vs are tuples that hold the pairs ps -/
def Prs (H : Hp) (vs : List V) (ps : List (Int × Int)) : Prop := vs.length = ps.length ∧ ∀ (i : Nat) p, ps[i]? = some p → ∃ a, vs[i]? = some (.ref a) ∧ H a = some (.tup [.int p.1, .int p.2])

/-- what is asked of the expression's own scope: the two names are its locals, its captured names are the def's -/
def OwnScope (env : Env) (sc : Scope) (xa xb : Str) : Prop :=
  (sc.kind = .function ∧ sc.isCoroutine = false ∧ xa ≠ xb) ∧ (sc.names.lookup (".0" : Str) = some .local ∧ sc.names.lookup xa = some .local ∧ sc.names.lookup xb = some .local) ∧
  (∀ y ∈ sc.names, y.2 ≠ NameKind.cell) ∧ ∀ y ∈ sc.names, y.2 = NameKind.free → ∃ c, env.cells.lookup y.1 = some c

section
variable {X : Cx} {s : Shared} {H : Hp} {σ : L2.St} {pins : List (Addr × Obj)}
/-- a tracked pair in the machine's heap -/
theorem pair_in {T : Addr} {p : Int × Int} (I : Inv X pins σ H s) (e : H T = some (.tup [.int p.1, .int p.2])) : ∃ ta tb, s.heap.IsTuple T #[.int p.1 ta, .int p.2 tb] := by
  obtain ⟨_, its, r, t⟩ := I.hok T _ e
  cases r with
  | cons q1 r =>
    cases r with
    | cons q2 r =>
      cases r
      obtain ⟨ta, rfl⟩ := q1
      obtain ⟨tb, rfl⟩ := q2
      exact ⟨ta, tb, t⟩
/-- the pairs by place: where they stand and what they hold -/
theorem pairs_in {vs : List V} {ps : List (Int × Int)} {its : List Value} (I : Inv X pins σ H s) (hp : Prs H vs ps) (r : Vals vs its) :
    ∃ (loc : Nat → Addr) (held : Nat → Array Value), ∀ j, j < ps.length → its[j]? = some (.ref (loc j)) ∧ s.heap.IsTuple (loc j) (held j) ∧ ∃ p ta tb, ps[j]? = some p ∧ held j = #[.int p.1 ta, .int p.2 tb] := by
  have one : ∀ j, ∃ (T : Addr) (xs : Array Value), j < ps.length → its[j]? = some (.ref T) ∧ s.heap.IsTuple T xs ∧ ∃ p ta tb, ps[j]? = some p ∧ xs = #[.int p.1 ta, .int p.2 tb] := fun j => by
    by_cases hj : j < ps.length
    · obtain ⟨T, e1, e2⟩ := hp.2 j ps[j] (List.getElem?_eq_getElem hj)
      obtain ⟨u, eu, ru⟩ := r.get e1
      cases ru
      obtain ⟨ta, tb, t⟩ := pair_in I e2
      exact ⟨T, _, fun _ => ⟨eu, t, ps[j], ta, tb, List.getElem?_eq_getElem hj, rfl⟩⟩
    · exact ⟨0, #[], fun z => absurd z hj⟩
  exact ⟨fun j => (one j).choose, fun j => (one j).choose_spec.choose, fun j hj => (one j).choose_spec.choose_spec hj⟩

/-- what a walk over the pairs is, begun at the new iterator that o is -/
def Begun (X : Cx) (s : Shared) (P : Addr) (ps : List (Int × Int)) (o : Obj) : Prop :=
  ∃ (foot : List Addr) (Hold : Nat → Array Value → Prop) (At : Nat → Heap → Prop) (Mid : Nat → Addr → Heap → Prop),
    (∀ A' : Around, A'.handled = none → WalksU X.prog X.w A' s.heap.objs.size foot [s.heap.objs.size] ps.length (fun j xs => j < ps.length ∧ Hold j xs) At Mid) ∧
    (∀ j xs, j < ps.length → Hold j xs → ∃ p ta tb, ps[j]? = some p ∧ xs = #[.int p.1 ta, .int p.2 tb]) ∧ At 0 (s.heap.push o) ∧ ∀ b ∈ foot, b < s.heap.objs.size + 1 ∧ b ≠ P
theorem begin_pairs {a P : Addr} {vs : List V} {ps : List (Int × Int)} {tb : Array Value} {Q' : Value → Shared → Prop} (I : Inv X pins σ H s) (hS : SqL X.K H a vs ∨ SqT X.K H a vs) (hp : Prs H vs ps) (hP : H P = some (.tbl tb))
    (fin : ∀ o, Begun X s P ps o → Q' (.ref s.heap.objs.size) { s with heap := s.heap.push o }) : wpAny (model X.prog X.w) X.A (pyIter (.ref a)) Q' X.xe s := by
  have hPo : s.heap.get? P = some { cls := .none, data := .fields tb } := I.hok P _ hP
  have notP : ∀ (b : Addr) (o : Obj) (xs : Array Value) (n : Nat), s.heap.get? b = some o → o.data = .seq xs n → b ≠ P := fun b o xs n e d z => by
    rw [z, hPo] at e
    rw [← Option.some.inj e] at d
    cases d
  have newP : s.heap.objs.size ≠ P := fun z => Nat.lt_irrefl _ (Nat.lt_of_lt_of_eq (Heap.lt_size hPo) z)
  -- from a walk over the items to the pairs
  have mk : ∀ (its : List Value) (o : Obj) (At : Nat → Heap → Prop), Vals vs its → a < s.heap.objs.size → a ≠ P → At 0 (s.heap.push o) →
      (∀ A' : Around, A'.handled = none → Walks X.prog X.w A' s.heap.objs.size [s.heap.objs.size, a] [s.heap.objs.size] its.toArray.size (fun i v => its.toArray[i]? = some v) At) →
      (∀ (A' : Around) (es : List Expr) (k : Nat) (pos : Pos) (j : Nat) (T : Addr) (s' : Shared) (Q : Unit → Shared → Prop) (E : Value → Shared → Prop), At j s'.heap → Q () s' → wpAny (model X.prog X.w) A' (letOwnedTupleGo (.Tuple es k pos) (.ref s.heap.objs.size) (.ref T)) Q E s') →
      Begun X s P ps o := by
    intro its o At r ha haP a0 W go
    obtain ⟨loc, held, hl⟩ := pairs_in I hp r
    have ln : its.toArray.size = ps.length := by rw [List.size_toArray, ← r.length, hp.1]
    have below : ∀ m, m < ps.length → loc m < s.heap.objs.size ∧ loc m ≠ P := fun m hm => by
      obtain ⟨_, ⟨ob, e, _, n, d⟩, _⟩ := hl m hm
      exact ⟨Heap.lt_size e, notP _ _ _ _ e d⟩
    refine ⟨_, _, _, _, fun A' hA => (asTuples (ln ▸ W A' hA) loc held (fun j v hj e => ?_) (fun j hj => Nat.ne_of_lt (below j hj).1) (fun es k pos j T s' Q E => go A' es k pos j T s' Q E)).bound, fun j xs hj e => ?_, ⟨a0, fun m hm => ?_⟩, fun b hb => ?_⟩
    · have e2 : its[j]? = some v := by simpa using e
      rw [(hl j hj).1] at e2
      exact (Option.some.inj e2).symm
    · obtain ⟨_, _, p, ta, tb', e1, e2⟩ := hl j hj
      exact ⟨p, ta, tb', e1, (show xs = held j from e).trans e2⟩
    · obtain ⟨_, ⟨ob, e, rest⟩, _⟩ := hl m hm
      exact ⟨ob, Heap.get?_push_of_some _ e, rest⟩
    · rcases List.mem_append.mp hb with z | z
      · rcases List.mem_cons.mp z with e | e
        · rw [e]; exact ⟨Nat.lt_succ_self _, newP⟩
        · rw [List.mem_singleton.mp e]; exact ⟨Nat.lt_succ_of_lt ha, haP⟩
      · obtain ⟨m, hm, e⟩ := List.mem_map.mp z
        obtain ⟨h1, h2⟩ := below m (List.mem_range.mp hm)
        rw [← e]; exact ⟨Nat.lt_succ_of_lt h1, h2⟩
  rcases hS with hS | hS
  · obtain ⟨its, r, hl, _⟩ := I.list hS
    obtain ⟨o, e, c, n, d⟩ := hl.isList
    refine wpAny_pyIter_list hl.isList (fin _ (mk its _ _ r (Heap.lt_size e) (notP _ _ _ _ e d) ⟨⟨_, Heap.get?_push_size _ rfl, rfl, rfl⟩, ⟨o, Heap.get?_push_of_some _ e, c, n, d⟩⟩ (fun A' hA => Walks.list hA _ a (Nat.ne_of_lt (Heap.lt_size e)) its.toArray) ?_))
    exact fun A' es k pos j T s' Q E at_ q => wpAny_letOwnedTupleGo_listiter at_.1 q
  · obtain ⟨its, r, ⟨o, e, c, n, d⟩, _⟩ := I.tuple hS
    refine wpAny_pyIter_tuple (items := its.toArray) ⟨o, e, c, n, d⟩ (fin _ (mk its _ _ r (Heap.lt_size e) (notP _ _ _ _ e d) ⟨⟨_, Heap.get?_push_size _ rfl, rfl, rfl⟩, ⟨o, Heap.get?_push_of_some _ e, c, n, d⟩⟩ (fun A' hA => Walks.tuple hA _ a (Nat.ne_of_lt (Heap.lt_size e)) its.toArray) ?_))
    exact fun A' es k pos j T s' Q E at_ q => letGo_tupleiter at_.1 q

/-- the expression's code object is made, or found: the table may grow, all else stands -/
theorem code_there {c P : Addr} {gpos : Pos} {qual : Str} {sc : Scope} {tb : Array Value} {Q' : Value → Shared → Prop} {E : Value → Shared → Prop} (hcode : X.env.code = .ref c) (C : PySem.W.CodeHd s.heap c P) (hP : s.heap.get? P = some { cls := .none, data := .fields tb }) (ok : TriplesOk tb.toList)
    (fin : ∀ (code : Value) (h' : Heap) (tk : Nat) (more : Array Value), Heap.ExtBut P s.heap h' → s.heap.objs.size ≤ h'.objs.size → h'.get? P = some { cls := .none, data := .fields (tb ++ more) } → TriplesOk (tb ++ more).toList → Q' code { s with heap := h', toks := tk }) :
    wpAny (model X.prog X.w) X.A (genexprCode X.env gpos qual sc) Q' E s := by
  cases found : codeAmong gpos tb.toList with
  | some old =>
    refine wpAny_genexprCode_hit hcode (C.code hP ok) found ?_
    have e : tb ++ #[] = tb := by simp
    exact fin old s.heap s.toks #[] (Heap.ExtBut.refl _ _) (Nat.le_refl _) (by rw [e]; exact hP) (by rw [e]; exact ok)
  | none =>
    refine wpAny_genexprCodeX hcode (C.code hP ok) (C.tab hP) found fun c' h' tk ext le lt isC _ tab _ => ?_
    obtain ⟨_, _, _, _, _, _, _, _, _, _, _, _, _, _, _, _, _, _, _, okT, _⟩ := isC
    exact fin _ h' tk _ ext (Nat.le_trans le (Nat.le_of_lt lt)) tab.2 okT

/-- the element at a pair of whole numbers: what it gives, wherever the expression runs later -/
def EltAt (X : Cx) (s₁ : Shared) (P : Addr) (sc : Scope) (xa xb : Str) (elt : Expr) (Gives : Int → Int → Value → Prop) : Prop :=
  ∀ (L : Addr) (code : Value) (A' : Around) (E' : Value → Shared → Prop) (a b : Int) (ta tb : Tok) (s₂ : Shared) (m : Str → Option Value), A'.handled = none →
    (∀ x o, x ≠ P → s₁.heap.get? x = some o → s₂.heap.get? x = some o) → s₂.heap.Ns L m → m xa = some (.int a ta) → m xb = some (.int b tb) →
    wpAny (model X.prog X.w) A' (eval elt (genEnv sc (cloFrom X.env.cells sc.names []) L code builtinsNs X.env)) (fun y s₃ => Gives a b y ∧ Keeps s₂ s₃) E' s₂

/-- the generator at g, in the state s₅, before its first item; H₁: what was held when it was made -/
def Fresh (X : Cx) (pins : List (Addr × Obj)) (σ : L2.St) (H₁ : Hp) (P : Addr) (ps : List (Int × Int)) (Gives : Int → Int → Value → Prop) (g : Addr) (s₅ : Shared) : Prop :=
  ∃ (foot writes : List Addr) (Gens : Array GenState → Array GenState → Prop) (Item : Nat → Value → Prop) (At : Nat → Shared → Prop),
    (WalksS X.prog X.w X.A.in1 g foot writes Gens ps.length Item At ∧ At 0 s₅ ∧ ∀ b ∈ foot, b < s₅.heap.objs.size) ∧
    (∀ j v, Item j v → ∃ p, ps[j]? = some p ∧ Gives p.1 p.2 v) ∧ ∀ s₆, Moved writes Gens s₅ s₆ → ∃ H₂, Tabbed P H₁ H₂ ∧ Inv X pins σ H₂ s₆

theorem gen_made {c P : Addr} {elt iter : Expr} {xa xb : Str} {pa pb pt gpos : Pos} {kt : Nat} {sc : Scope} {te : TE} {k : Nat} {Q' : Value → Shared → Prop} {Want : List (Int × Int) → Hp → Prop} {Gives : Int → Int → Value → Prop}
    (room : Room k X.A) (TB : TabB X.base X.mg c P) (hcode : X.env.code = .ref c) (own : OwnScope X.env sc xa xb) (walked : PE X iter te) (plain : ∀ v, genFold iter X.env v = pure v) (I : Inv X pins σ H s)
    (each : ∀ s₁ H₁, Inv X pins σ H₁ s₁ → TabG H₁ P → EltAt X s₁ P sc xa xb elt Gives)
    (h : te σ H fun v H₁ => ∃ (a : Addr) (vs : List V) (ps : List (Int × Int)), v = .ref a ∧ (SqL X.K H₁ a vs ∨ SqT X.K H₁ a vs) ∧ Prs H₁ vs ps ∧ TabG H₁ P ∧ Want ps H₁)
    (fin : ∀ ps H₁ g s₅, Want ps H₁ → Fresh X pins σ H₁ P ps Gives g s₅ → Q' (.ref g) s₅) :
    wpAny (model X.prog X.w) X.A (eval (.GeneratorExp elt [⟨.Tuple [.Name xa pa, .Name xb pb] kt pt, iter, [], 0⟩] sc gpos) X.env) Q' X.xe s := by
  obtain ⟨⟨o1, o2, o3⟩, ⟨o4, o5, o6⟩, o7, o8⟩ := own
  have deep : X.A.depth < recursionLimit := by have := room.dp; omega
  refine wpAny_GeneratorExp_walksQT room.hd o2 (closure_ok o8) o7 o4 o5 o6 o3 o1 deep (thn (walked.run pins s σ H _ I h) fun u s₁ had => ?_) plain
  obtain ⟨_, H₁, I₁, rel, a, vs, ps, rfl, hS, hp, ⟨tb, hP, ok⟩, want⟩ := had
  cases rel
  have tabAt : s₁.heap.get? P = some { cls := .none, data := .fields tb } := I₁.hok P _ hP
  refine begin_pairs I₁ hS hp hP fun o beg => ?_
  obtain ⟨foot, Hold, At, Mid, W, holds, at0, low⟩ := beg
  have statics : cStatics < s₁.heap.objs.size ∧ cStatics ≠ P := by
    obtain ⟨_, ns, _⟩ := I₁.nolimit
    refine ⟨ns.lt, fun z => ?_⟩
    obtain ⟨ob, _, _, e, d, _⟩ := ns
    rw [z, tabAt] at e
    rw [← Option.some.inj e] at d
    cases d
  have quiet : (s₁.heap.push o).NoLimit := I₁.nolimit.push o
  refine ⟨quiet, code_there hcode (TB.code.keeps fun b u e => Heap.get?_push_of_some _ (I₁.bk b u e)) (Heap.get?_push_of_some _ tabAt) ok fun code h₃ tk more ext le tab₃ ok₃ => ?_⟩
  rw [Heap.size_push] at le
  have stays : ∀ b u, b ≠ P → s₁.heap.get? b = some u → h₃.get? b = some u := fun b u hb e => ext b u hb (Heap.get?_push_of_some _ e)
  obtain ⟨bm, ob, f1, f2, f3, f4, f5, f6, f7, f8⟩ := TB.bm
  have globals : Heap.Ns h₃ X.env.globals X.mg := by
    rw [I₁.ok.glob]
    exact ((I₁.mod.glob.keeps I₁.bk).push o).extBut ext TB.gP
  refine wpAny_builtinsFor (m := X.mg) globals f1 f2 (stays bm ob f4 (I₁.bk bm ob f5)) f6 f7 f8 ?_
  have later : ∀ b u, s₁.heap.get? b = some u → b ∉ [h₃.objs.size, s₁.heap.objs.size] := fun b u e z => by
    have lt := Heap.lt_size e
    rcases List.mem_cons.mp z with z' | z'
    · exact Nat.lt_irrefl _ (Nat.lt_of_lt_of_le (z' ▸ lt) (Nat.le_of_succ_le le))
    · exact Nat.lt_irrefl _ (List.mem_singleton.mp z' ▸ lt)
  refine ⟨_, _, _, _, _, _, _, fun _ => true, fun i y => i < ps.length → ∃ p, ps[i]? = some p ∧ Gives p.1 p.2 y, rfl, W, fun i xs hx => ?_, ?_, fun b hb => Nat.lt_of_lt_of_le (low b hb).1 le, quiet.extBut ext statics.2, fun z => Nat.ne_of_lt statics.1 (List.mem_singleton.mp z), fun ref kept => ⟨?_, ?_⟩, ?_⟩
  · obtain ⟨p, ta, tb', _, e⟩ := holds i xs hx.1 hx.2
    exact ⟨_, _, e⟩
  · exact (W X.A room.hd).frame _ _ _ at0 fun b hb u e => ext b u (low b hb).2 e
  · intro A' E' i va vb s₂ m _ _ _ _ _ _
    rw [List.forIn_nil]
    exact wpAny_pure ⟨rfl, _, _, rfl, fun _ _ e => e⟩
  · intro A' E' i va vb s₂ m calm hx _ ns ea eb still
    obtain ⟨p, ta, tb', ep, e⟩ := holds i _ hx.1 hx.2
    have e1 : va = .int p.1 ta := by have z := congrArg (·[0]?) e; simpa using z
    have e2 : vb = .int p.2 tb' := by have z := congrArg (·[1]?) e; simpa using z
    subst e1 e2
    refine wpAny_mono (each s₁ H₁ I₁ ⟨tb, hP, ok⟩ _ code A' E' p.1 p.2 ta tb' s₂ m calm (fun b u hb q => ?_) ns ea eb) (fun y s₃ r => ⟨fun _ => ⟨p, ep, r.1⟩, r.2⟩) fun _ _ q => q
    have q3 := stays b u hb q
    exact still b (List.mem_range.mpr (Heap.lt_size q3)) (fun z => later b u q (List.mem_cons_of_mem _ z)) u (kept b u q3)
  · intro g h₅ tk₅ gs bare above size kept W₅ at₅
    rw [GxR.passing_true, List.length_range] at W₅
    have above' : h₃.objs.size < g := above
    have size' : h₅.objs.size = g + 1 := size
    refine fin ps H₁ g _ want ⟨_, _, _, _, _, ⟨W₅.in4_1, at₅, fun b hb => ?_⟩, fun j v it => ?_, fun s₆ mv => ?_⟩
    · show b < h₅.objs.size
      rw [size']
      rcases List.mem_cons.mp hb with eg | e
      · rw [eg]; exact Nat.lt_succ_self g
      · refine Nat.lt_succ_of_le (Nat.le_trans ?_ (Nat.le_of_lt above'))
        rcases List.mem_cons.mp e with e' | e'
        · rw [e']; exact Nat.le_refl _
        · exact Nat.le_of_lt (List.mem_range.mp e')
    · obtain ⟨i, ei, hg⟩ := it
      have lt : j < ps.length := by
        have z := (List.getElem?_eq_some_iff.mp ei).1
        rwa [List.length_range] at z
      rw [List.getElem?_range lt] at ei
      cases ei
      exact hg lt
    · have all : ∀ b u, b ≠ P → s₁.heap.get? b = some u → s₆.heap.get? b = some u := fun b u hb e => mv.heap b u (later b u e) (kept b u (stays b u hb e))
      have tab₆ := mv.heap P _ (later P _ tabAt) (kept P _ tab₃)
      have J := inv_tab (more := more) (d' := s₆.drawn) (t' := s₆.toks) I₁ hP all tab₆ (AllBare.movedS (I₁.bare.push bare) mv)
      rw [sh_eta s₁ s₆ mv.os] at J
      exact ⟨_, ⟨⟨tb ++ more, upd_same, ok₃⟩, fun b hb => upd_ne hb⟩, J⟩

/-- the sum of g over the pairs -/
def sumP (g : Int → Int → Int) (ps : List (Int × Int)) : Int := (ps.map fun p => g p.1 p.2).sum
theorem preSum_is (g : Int → Int → Int) (ps : List (Int × Int)) (val : Nat → Int) (h : ∀ i p, ps[i]? = some p → val i = g p.1 p.2) : ∀ n, n ≤ ps.length → preSum val n = sumP g (ps.take n)
  | 0, _ => rfl
  | n + 1, hn => by
    have e : ps[n]? = some ps[n] := List.getElem?_eq_getElem hn
    show preSum val n + val n = _
    rw [preSum_is g ps val h n (by omega), h n _ e]
    unfold sumP
    rw [List.take_add_one, e, List.map_append, List.sum_append]
    show _ = _ + (g ps[n].1 ps[n].2 + 0)
    rw [Int.add_zero]
/-- what the reading of sum(..), any(..) over pairs asks: what is captured (Cap), the pairs, the table; then the answer -/
def tOver {α : Type} (K : PySem.W.Frag) (P : Addr) (Cap : L2.St → α → Prop) (ans : α → List (Int × Int) → V) (te : TE) : TE := fun σ H Q => ∃ x : α, Cap σ x ∧ te σ H fun v H₁ => ∃ (a : Addr) (vs : List V) (ps : List (Int × Int)), v = .ref a ∧ (SqL K H₁ a vs ∨ SqT K H₁ a vs) ∧ Prs H₁ vs ps ∧ TabG H₁ P ∧
  ∀ H₂, Tabbed P H₁ H₂ → Q (ans x ps) H₂
/-- how a built-in takes a generator over pairs -/
def Takes2 (X : Cx) (name : String) (Gives : Int → Int → Value → Prop) (ans : List (Int × Int) → V) : Prop :=
  ∀ (pins : List (Addr × Obj)) (σ : L2.St) (P : Addr) (ps : List (Int × Int)) (H₁ : Hp) (gen : Addr) (s₅ : Shared) (Q : VK), Fresh X pins σ H₁ P ps Gives gen s₅ → (∀ H₂, Tabbed P H₁ H₂ → Q (ans ps) H₂) →
    wpAny (model X.prog X.w) X.A (call (.builtin name) [.ref gen]) (EP X pins σ Q) X.xe s₅
theorem pe_over {α : Type} {name : String} {x : Str} {c P : Addr} {elt iter : Expr} {xa xb : Str} {pa pb pt p pos gpos : Pos} {kt : Nat} {sc : Scope} {Cap : L2.St → α → Prop} {Gives : α → Int → Int → Value → Prop} {ans : α → List (Int × Int) → V} {te : TE} {k : Nat} (takes : ∀ y, Takes2 X name (Gives y) (ans y))
    (room : Room k X.A) (glob : Gl X x) (free : X.mg x = none) (bltn : bootBuiltins x = some (.builtin name)) (TB : TabB X.base X.mg c P) (hcode : X.env.code = .ref c) (own : OwnScope X.env sc xa xb) (walked : PE X iter te)
    (each : ∀ pins σ s₁ H₁ y, Inv X pins σ H₁ s₁ → TabG H₁ P → Cap σ y → EltAt X s₁ P sc xa xb elt (Gives y)) (plain : ∀ v, genFold iter X.env v = pure v) (n1 : x ≠ "__name__" := by decide) (n2 : (x == ("__debug__" : Str)) = false := by decide)
    (one : starEach [.GeneratorExp elt [⟨.Tuple [.Name xa pa, .Name xb pb] kt pt, iter, [], 0⟩] sc gpos] X.env = [(false, eval (.GeneratorExp elt [⟨.Tuple [.Name xa pa, .Name xb pb] kt pt, iter, [], 0⟩] sc gpos) X.env)] := by rfl) :
    PE X (.Call (.Name x p) [.GeneratorExp elt [⟨.Tuple [.Name xa pa, .Name xb pb] kt pt, iter, [], 0⟩] sc gpos] [] pos) (tOver X.K P Cap ans te) := by
  constructor
  intro pins s σ H Q I h
  obtain ⟨y, cap, h⟩ := h
  refine wpAny_Call_Name_kw (ld_blt I glob free bltn (callWith_builtin1 ?_ one (by rfl)) n1 n2)
  rw [one]
  refine Calls.spliced_cons (gen_made (Want := fun ps H₁ => ∀ H₂, Tabbed P H₁ H₂ → Q (ans y ps) H₂) (Gives := Gives y) room TB hcode own walked plain I (fun s₁ H₁ J g => each pins σ s₁ H₁ y J g cap) h fun ps H₁ gen s₅ want fresh => Calls.spliced_nil ?_)
  exact takes y pins σ P ps H₁ gen s₅ Q fresh want
theorem takes_sum (g : Int → Int → Int) : Takes2 X "sum" (fun a b y => ∃ t, y = .int (g a b) t) (fun ps => .int (sumP g ps)) := by
  intro pins σ P ps H₁ gen s₅ Q fresh want
  obtain ⟨foot, writes, Gens, Item, At, ⟨W, a0, low⟩, items, behind⟩ := fresh
  let val : Nat → Int := fun i => (ps[i]?.map fun p => g p.1 p.2).getD 0
  have hv : ∀ i p, ps[i]? = some p → val i = g p.1 p.2 := fun i p e => by show (ps[i]?.map _).getD 0 = _; rw [e]; rfl
  refine call_sum_walkAnyS (W.self 0 _ _ _ a0 ⟨gen, foot, writes, Gens, ps.length, Item, At, val, rfl, W, a0, low, fun i v it => ?_, fun s₆ t mv => ?_⟩)
  · obtain ⟨p, e, t, ev⟩ := items i v it
    exact ⟨t, by rw [hv i p e]; exact ev⟩
  · obtain ⟨H₂, tabbed, J⟩ := behind s₆ mv
    refine ⟨.int (preSum val ps.length), H₂, J, ⟨t, rfl⟩, ?_⟩
    rw [preSum_is g ps val hv ps.length (Nat.le_refl _), List.take_length]
    exact want H₂ tabbed
def anyP (g : Int → Int → Bool) (ps : List (Int × Int)) : Bool := ps.any fun p => g p.1 p.2
theorem any_is {α : Type} (ps : List α) (f : α → Bool) (tr : Nat → Bool) (h : ∀ i p, ps[i]? = some p → tr i = f p) : (List.range ps.length).any tr = ps.any f := by
  rw [Bool.eq_iff_iff, List.any_eq_true (l := List.range _), List.any_eq_true]
  constructor
  · rintro ⟨i, hi, e⟩
    have lt := List.mem_range.mp hi
    exact ⟨ps[i], List.getElem_mem lt, by rw [← h i _ (List.getElem?_eq_getElem lt)]; exact e⟩
  · rintro ⟨p, hp, e⟩
    obtain ⟨i, lt, rfl⟩ := List.getElem_of_mem hp
    exact ⟨i, List.mem_range.mpr lt, by rw [h i _ (List.getElem?_eq_getElem lt)]; exact e⟩
theorem takes_any (g : Int → Int → Bool) : Takes2 X "any" (fun a b y => y = .bool (g a b)) (fun ps => .bl (anyP g ps)) := by
  intro pins σ P ps H₁ gen s₅ Q fresh want
  obtain ⟨foot, writes, Gens, Item, At, ⟨W, a0, low⟩, items, behind⟩ := fresh
  let tr : Nat → Bool := fun i => (ps[i]?.map fun p => g p.1 p.2).getD false
  have ht : ∀ i p, ps[i]? = some p → tr i = g p.1 p.2 := fun i p e => by show (ps[i]?.map _).getD false = _; rw [e]; rfl
  refine call_any_walkS (W.self 0 _ _ _ a0 ⟨gen, foot, writes, Gens, ps.length, Item, At, tr, rfl, W, a0, fun i v s' Q' E' it q => ?_, fun s₆ mv => ?_⟩)
  · obtain ⟨p, e, rfl⟩ := items i v it
    rw [ht i p e] at q
    exact wpAny_truthy_bool q
  · obtain ⟨H₂, tabbed, J⟩ := behind s₆ mv
    refine ⟨.bl _, H₂, J, rfl, ?_⟩
    rw [any_is ps (fun p => g p.1 p.2) tr ht]
    exact want H₂ tabbed
/-- a whole number that the expression captures, as its cell has it -/
theorem captured {i : Nat} {y : Str} {n : Int} {P : Addr} (I : Inv X pins σ H s) (hN : X.N[i]? = some y) (hk : X.env.scope.names.lookup y = some .cell) (hv : σ[i]? = some (some (.int n))) (g : TabG H P) :
    ∃ c t, X.env.cells.lookup y = some c ∧ s.heap.IsCell c (some (.int n t)) ∧ c ≠ P := by
  obtain ⟨tb, hP, _⟩ := g
  obtain ⟨m, _, look⟩ := I.loc
  obtain ⟨u, ⟨t, rfl⟩, l⟩ := look i y _ hN hv (.inr (.inl hk))
  rcases l with ⟨z, _⟩ | ⟨_, c, e, o, ho, hd⟩
  · rw [show X.env.kindOf y = some .cell from hk] at z
    cases z
  · refine ⟨c, t, e, ⟨o, ho, hd⟩, fun z => ?_⟩
    rw [z, I.hok P _ hP] at ho
    rw [← Option.some.inj ho] at hd
    cases hd
/-- the names of the module and the built-in ones, where the expression runs -/
theorem names_in {P : Addr} {s₂ : Shared} (I : Inv X pins σ H s) (g : TabG H P) (gP : mainGlobals ≠ P) (kept : ∀ x o, x ≠ P → s.heap.get? x = some o → s₂.heap.get? x = some o) :
    s₂.heap.Ns mainGlobals X.mg ∧ ∃ mb, s₂.heap.Ns builtinsNs mb ∧ ∀ x : Str, x ≠ "__name__" → mb x = bootBuiltins x := by
  obtain ⟨tb, hP, _⟩ := g
  obtain ⟨mb, b1, b2⟩ := I.mod.blt
  have at_ : ∀ b m, b ≠ P → s.heap.Ns b m → s₂.heap.Ns b m := fun b m hb ⟨o, es, ep, ho, r⟩ => ⟨o, es, ep, kept b o hb ho, r⟩
  refine ⟨at_ _ _ gP (I.mod.glob.keeps I.bk), mb, at_ _ _ (fun z => ?_) (b1.keeps I.bk), b2⟩
  obtain ⟨o, es, ep, ho, hd, _⟩ := b1.keeps I.bk
  rw [z, I.hok P _ hP] at ho
  rw [← Option.some.inj ho] at hd
  cases hd
end
end GP

namespace TK
open PySem PySem.Spec PyProof.Rows L2 GP
def topS (i : Nat) : Stmt := PySem.Challenge.pw_tinrecall_k52_tells_and_what_lacks.main.body.getD i (.Pass ⟨0, 0, 0, 0⟩)

/-- the draws' state: its dict at d, its cells at c -/
structure StAt (H : Hp) (d c : Addr) (t : Int) : Prop where
  dict : H d = some (.dK [(.inr "cells", .ref c), (.inr "turn", .int t)])
  cells : ∃ cs : List Int, H c = some (.lst (cs.map V.int)) ∧ cs ≠ [] ∧ cs.length ≤ 63
  pos : 0 ≤ t
theorem StAt.ne {H : Hp} {d c : Addr} {t : Int} (h : StAt H d c t) : d ≠ c := by
  obtain ⟨cs, hc, _⟩ := h.cells
  exact ne_of h.dict hc (by intro z; cases z)
/-- all but the state is as it was -/
def Kp (d c : Addr) (H H' : Hp) : Prop := ∀ b o, b ≠ d → b ≠ c → H b = some o → H' b = some o
theorem Kp.refl (d c : Addr) (H : Hp) : Kp d c H H := fun _ _ _ _ h => h
theorem Kp.trans {d c : Addr} {H H1 H2 : Hp} (a : Kp d c H H1) (b : Kp d c H1 H2) : Kp d c H H2 := fun x o h1 h2 h => b x o h1 h2 (a x o h1 h2 h)

theorem ixN_of {n j : Nat} (h : j < n) : ixN n (j : Int) = some j := by
  unfold ixN
  rw [if_pos (Int.natCast_nonneg j), if_pos (by omega), Int.toNat_natCast]
def spTake : Sp := fun vs H Q _ => ∃ (d c : Addr) (t m : Int), vs = [.ref d, .int m] ∧ StAt H d c t ∧ t < 2 ^ 60 ∧ 0 < m ∧ m.natAbs < 2 ^ 250 ∧
  ∀ r H', 0 ≤ r → r < m → StAt H' d c (t + 1) → Kp d c H H' → Q (.int r) H'

abbrev sTake : Stmt := topS 34
theorem scTake : FnScope ["_law_state", "_law_many", "_law_turn", "_law_place", "_law_cell", "_law_digit", "_law_mixed"] ["_law_state", "_law_many"] (defScope sTake) := ⟨rfl, rfl, rfl, by decide +kernel, rfl, by decide +kernel, by decide +kernel⟩
section
variable {K : PySem.W.Frag} {mg : Str → Option Value} {P : Program} {w : World} {base : Heap}
theorem ok_take {f : Addr} {fd : FuncData} {k : Nat} (F : Fun K "_law_take" "_law_take" sTake f fd) (ml : mg "len" = none) (md : mg "divmod" = none) : FnOk P w K mg base CX0 (k + 1) f fd ["_law_state", "_law_many"] spTake := by
  refine F.ok scTake (fun vs H Q E h => ?_) (fun cdv A outer s H vs Q E hr h => ?_)
  · obtain ⟨d, c, t, m, rfl, _⟩ := h
    rfl
  · obtain ⟨d, c, t, m, rfl, hS, ht, hm, hm2, q⟩ := h
    refine ⟨_, pss_cons (ps_set (i := 2) scTake.nd rfl (.inl rfl) (pe_op op_add (pe_dget (hu_of hr) (pv 0) pe_str (fun _ _ => rfl)) pe_int))
      (pss_cons (ps_dput (hu_of hr) (pv 0) pe_str (pv 2) rfl)
      (pss_cons (ps_set (i := 3) scTake.nd rfl (.inl rfl) (pe_op op_mod (pv 2) (pe_callB call_len_seq (by rfl) ml PySem.boot_len (pa_cons (pe_dget (hu_of hr) (pv 0) pe_str (fun _ _ => rfl)) pa_nil))))
      (pss_cons (ps_set (i := 4) scTake.nd rfl (.inl rfl) (pe_ix ix_list (pe_dget (hu_of hr) (pv 0) pe_str (fun _ _ => rfl)) (pv 3) (fun _ _ => rfl)))
      (pss_cons (ps_if (pt_cmpR op_ge (pv 4) (pe_op op_pow pe_int pe_int) (nomark _))
        (pss_cons (ps_asg (pe_callB call_divmodW (by rfl) md (by decide +kernel) (pa_cons (pv 4) (pa_cons (pv 1) pa_nil)))
            (pg_tup rfl (pgs_cons (pg_sub (pe_dget (hu_of hr) (pv 0) pe_str (fun _ _ => rfl)) (pv 3) set_list) (pgs_cons (pg_name (i := 5) scTake.nd rfl (.inl rfl)) pgs_nil))))
          (pss_one (ps_ret (pv 5)))) pss_nil)
      (pss_cons (ps_set (i := 6) scTake.nd rfl (.inl rfl) (pe_op op_mod (pe_op op_mul (pe_op op_add (pe_op op_add (pe_op op_mod (pv 4) pe_int) (pe_op op_mul (pe_op op_mul (pv 2) (pv 2)) pe_int)) pe_int) pe_int) pe_int))
      (pss_cons (ps_set (i := 6) scTake.nd rfl (.inl rfl) (pe_op op_mod (pe_op op_mul (pv 6) (pv 6)) pe_int))
      (pss_one (ps_ret (pe_op op_mod (pe_op op_fdiv (pe_op op_mod (pe_op op_mul (pe_op op_add (pv 6) (pe_op op_mul (pv 2) pe_int)) pe_int) pe_int) pe_int) (pv 1)))))))))), ?_⟩
    obtain ⟨hd, ⟨cs, hc, hne, hlen⟩, hpos⟩ := hS
    have ndc : d ≠ c := ne_of hd hc (by intro z; cases z)
    -- turn = state['turn'] + 1
    refine ⟨.ref d, rfl, d, .int t, rfl, DGet.k (k := Sum.inr "turn") hd, t, 1, rfl, rfl, ?_⟩
    -- state['turn'] = turn
    refine ⟨_, rfl, .ref d, rfl, d, _, rfl, DPut.k (k := Sum.inr "turn") hd (by show 2 < sizeLine; decide), ?_⟩
    have hput : putK [((.inr "cells" : Key), V.ref c), (.inr "turn", .int t)] (.inr "turn") (.int (t + 1)) = [(.inr "cells", .ref c), (.inr "turn", .int (t + 1))] := rfl
    rw [show (.int (t + 1) : V) = V.int (t + 1) from rfl] at *
    rw [hput]
    generalize hH1 : upd H d (.dK [((.inr "cells" : Key), V.ref c), (.inr "turn", .int (t + 1))]) = H1
    have hd1 : H1 d = some (.dK [(.inr "cells", .ref c), (.inr "turn", .int (t + 1))]) := by rw [← hH1]; exact upd_same
    have hc1 : H1 c = some (.lst (cs.map V.int)) := by rw [← hH1, upd_ne ndc.symm]; exact hc
    have k1 : Kp d c H H1 := fun b o h1 h2 e => by rw [← hH1, upd_ne h1]; exact e
    have hlp : 0 < cs.length := List.length_pos_iff.mpr hne
    -- place = turn % len(state['cells'])
    refine ⟨_, rfl, .ref d, rfl, d, .ref c, rfl, DGet.k (k := Sum.inr "cells") hd1, c, _, rfl, .inl (SqL.of hc1), _, _, rfl, rfl, (by show (0 : Int) < ((cs.map V.int).length : Int); rw [List.length_map]; omega), ?_⟩
    dsimp only
    rw [List.length_map]
    have hj0 : 0 ≤ (t + 1) % (cs.length : Int) := Int.emod_nonneg _ (by omega)
    have hj1 : (t + 1) % (cs.length : Int) < cs.length := Int.emod_lt_of_pos _ (by omega)
    obtain ⟨j, hj⟩ := Int.eq_ofNat_of_zero_le hj0
    have hjl : j < cs.length := by omega
    rw [hj]
    have gj : (cs.map V.int)[j]? = some (.int cs[j]) := by rw [List.getElem?_map, List.getElem?_eq_getElem hjl]; rfl
    -- cell = state['cells'][place]
    refine ⟨.ref d, rfl, d, .ref c, rfl, DGet.k (k := Sum.inr "cells") hd1, _, rfl, c, _, _, .int cs[j], rfl, rfl, SqL.of hc1, atI_nat gj, ?_⟩
    generalize cs[j] = x
    -- if cell >= 10 ** 18
    refine ⟨_, rfl, 10, 18, rfl, rfl, ⟨by decide, by decide, by decide⟩, _, _, rfl, rfl, _, rfl, ite2 (fun e => ?_) (fun e => ?_)⟩
    · have hdp : CDivP x m := ⟨hm, PyProof.noPylong_of_log2 (Nat.lt_trans (PySem.Flt.log2_lt_of (by decide) hm2) (by decide))⟩
      refine ⟨_, rfl, _, rfl, x, m, rfl, hdp, fun p hp => ?_⟩
      have npd : d ≠ p := ne_of_none hd1 hp
      have npc : c ≠ p := ne_of_none hc1 hp
      have hd2 : upd H1 p (.tup [.int (x / m), .int (x % m)]) d = some (.dK [(.inr "cells", .ref c), (.inr "turn", .int (t + 1))]) := by rw [upd_ne npd]; exact hd1
      have hc2 : upd H1 p (.tup [.int (x / m), .int (x % m)]) c = some (.lst (cs.map V.int)) := by rw [upd_ne npc]; exact hc1
      refine ⟨p, _, rfl, .inl (.inl upd_same), rfl, _, _, rfl, .ref d, rfl, d, .ref c, rfl, DGet.k (k := Sum.inr "cells") hd2, _, rfl, c, _, _, j, rfl, rfl, hc2, ixN_of (by rw [List.length_map]; exact hjl), _, _, rfl, rfl, ?_⟩
      refine ⟨_, rfl, ?_⟩
      refine q _ _ (Int.emod_nonneg _ (by omega)) (Int.emod_lt_of_pos _ hm) ⟨?_, ⟨cs.set j (x / m), ?_, ?_, ?_⟩, by omega⟩ ?_
      · rw [upd_ne ndc]; exact hd2
      · rw [upd_same, List.map_set]
      · intro z
        have z2 : (cs.set j (x / m)).length = 0 := by rw [z]; rfl
        rw [List.length_set] at z2
        omega
      · rw [List.length_set]; exact hlen
      · intro b o h1 h2 e
        rw [upd_ne h2, upd_ne (ne_of_none (k1 b o h1 h2 e) hp)]
        exact k1 b o h1 h2 e
    · have t1 : t + 1 < 2 ^ 61 := by omega
      -- mixed
      refine ⟨_, rfl, _, _, rfl, rfl, (show (0 : Int) < 2147483629 by decide), _, rfl, _, rfl, t + 1, t + 1, rfl, rfl, .inl ⟨by omega, by omega⟩, _, _, rfl, rfl, .inr ⟨by decide, by decide⟩, _, _, rfl, rfl, _, _, rfl, rfl, _, _, rfl, rfl, .inr ⟨by decide, by decide⟩, _, 2147483647, rfl, rfl, (show (0 : Int) < 2147483647 by decide), ?_⟩
      dsimp only
      generalize hy : ((x % 2147483629 + (t + 1) * (t + 1) * 7919 + 11) * 48271) = y
      have y0 : 0 ≤ y % 2147483647 := Int.emod_nonneg _ (by decide)
      have y1 : y % 2147483647 < 2147483647 := Int.emod_lt_of_pos _ (by decide)
      refine ⟨_, rfl, _, rfl, y % 2147483647, y % 2147483647, rfl, rfl, .inl ⟨by omega, by omega⟩, _, 2147483587, rfl, rfl, (show (0 : Int) < 2147483587 by decide), ?_⟩
      refine ⟨_, rfl, _, rfl, t + 1, 104729, rfl, rfl, .inr ⟨by decide, by decide⟩, _, _, rfl, rfl, _, _, rfl, rfl, .inr ⟨by decide, by decide⟩, _, 2147483629, rfl, rfl, (show (0 : Int) < 2147483629 by decide), _, 64, rfl, rfl, ⟨by decide, by decide⟩, _, rfl, _, m, rfl, rfl, hm, ?_⟩
      exact q _ _ (Int.emod_nonneg _ (by omega)) (Int.emod_lt_of_pos _ hm) ⟨hd1, ⟨cs, hc1, hne, hlen⟩, by omega⟩ k1
end

abbrev sBegin : Stmt := topS 33
theorem scBegin : FnScope ["_law_script", "_law_cells"] ["_law_script"] (defScope sBegin) := ⟨rfl, rfl, rfl, by decide +kernel, rfl, by decide +kernel, by decide +kernel⟩
theorem same_upd {H : Hp} {p : Addr} {o : HO} (h : H p = none) : Same H (upd H p o) := fun b x e => by
  rw [upd_ne (ne_of_none e h)]
  exact e
theorem cut_front (xs : List V) (m : Nat) : cutV xs none (some (m : Int)) = xs.take m := by
  unfold cutV
  rw [HT.sIx_none, HT.sIx_nat]
  show List.take (min m xs.length - 0) (xs.drop 0) = xs.take m
  rw [Nat.sub_zero, List.drop_zero]
  by_cases h : m ≤ xs.length
  · rw [Nat.min_eq_left h]
  · rw [Nat.min_eq_right (by omega), List.take_length, List.take_of_length_le (by omega)]
theorem dp_ints {K : PySem.W.Frag} {H : Hp} : ∀ ns : List Int, DpAll K H (ns.map V.int) (ns.map PyData.int)
  | [] => .nil
  | n :: r => .cons (.int n) (dp_ints r)
theorem lay_ints : ∀ ns : List Int, PyData.canLayAll0 (ns.map PyData.int) = true
  | [] => by simp only [List.map_nil, PyData.canLayAll0]
  | n :: r => by
    rw [List.map_cons, PyData.canLayAll0, lay_ints r]
    simp [PyData.canLay0]
theorem depth_ints : ∀ ns : List Int, PyData.depthAll (ns.map PyData.int) = 0
  | [] => by simp only [List.map_nil, PyData.depthAll]
  | n :: r => by
    rw [List.map_cons, PyData.depthAll, depth_ints r]
    simp [PyData.depth]
theorem shaped_ints (ns : List Int) : SeqAt.shaped (PyData.list (ns.map PyData.int)) = true := by
  unfold SeqAt.shaped
  rw [PyData.canLay0, lay_ints, PyData.depth, depth_ints]
  rfl
theorem eqv_nil (n : Int) (r : List Int) : PyData.eqv (PyData.list ((n :: r).map PyData.int)) (PyData.list []) = false := by
  simp [PyData.eqv, PyData.eqvAll]
theorem eqv_nil0 : PyData.eqv (PyData.list (([] : List Int).map PyData.int)) (PyData.list []) = true := by
  simp [PyData.eqv, PyData.eqvAll]
def spBegin (K : PySem.W.Frag) : Sp := fun vs H Q _ => ∃ (a : Addr) (ns : List Int), vs = [.ref a] ∧ SqL K H a (ns.map V.int) ∧ ns.length ≤ 63 ∧
  ∀ d c H', Same H H' → H d = none → H c = none → StAt H' d c 0 → Q (.ref d) H'
section
variable {K : PySem.W.Frag} {mg : Str → Option Value} {P : Program} {w : World} {base : Heap}
theorem ok_begin {f : Addr} {fd : FuncData} {k : Nat} (F : Fun K "_law_begin" "_law_begin" sBegin f fd) (ml : mg "list" = none) : FnOk P w K mg base CX0 (k + 1) f fd ["_law_script"] (spBegin K) := by
  refine F.ok scBegin (fun vs H Q E h => ?_) (fun cdv A outer s H vs Q E hr h => ?_)
  · obtain ⟨a, ns, rfl, _⟩ := h
    rfl
  · obtain ⟨a, ns, rfl, hS, hlen, q⟩ := h
    refine ⟨_, pss_cons (ps_set (i := 1) scBegin.nd rfl (.inl rfl) (pe_callTy call_list_of (by rfl) ml (by decide +kernel) (pa_cons (pe_slice sl_list (pv 0) po_none (po_some pe_int)) pa_nil)))
      (pss_cons (ps_if (pt_cmpR (op_eqD hr.units) (pv 1) (pe_lst pa_nil) (nomark _)) (pss_one (ps_set (i := 1) scBegin.nd rfl (.inl rfl) (pe_lst (pa_cons pe_int pa_nil)))) pss_nil)
      (pss_one (ps_ret (pe_disp (pps_cons pe_str (pv 1) (pps_cons pe_str pe_int pps_nil)) (by rfl) (by rfl) (fun z => by cases z) (by decide))))), ?_⟩
    -- the end: a dict of what stands at the cells' place
    have fin : ∀ (H1 : Hp) (c : Addr) (cs : List Int) (y : Option V), Same H H1 → H c = none → H1 c = some (.lst (cs.map V.int)) → cs ≠ [] → cs.length ≤ 63 →
        (tRet (tDisp [(tC (.str "cells"), tVar 1), (tC (.str "turn"), tC (.int 0))])) { nx := fun _ H' => Q .non H', rt := Q } [some (.ref a), some (.ref c)] H1 := by
      intro H1 c cs y s1 nc ec hne hl
      refine fun d nd => ⟨_, rfl, upd_same, [(.inr "cells", .ref c), (.inr "turn", .int 0)], rfl, (by show 2 ≤ 15; decide), ?_⟩
      have ndc : c ≠ d := ne_of_none ec nd
      refine q d c _ (fun b o e => ?_) (s1.free nd) nc ⟨?_, ⟨cs, ?_, hne, hl⟩, by decide⟩
      · have nb : b ≠ d := ne_of_none (s1 b o e) nd
        rw [upd_ne nb, upd_ne nb]
        exact s1 b o e
      · exact upd_same
      · rw [upd_ne ndc, upd_ne ndc]
        exact ec
    refine ⟨.ref a, rfl, 63, rfl, a, ns.map V.int, rfl, hS, fun p np => ?_⟩
    have s1 : Same H (upd H p (.lst (cutV (ns.map V.int) none (some 63)))) := same_upd np
    refine ⟨p, _, rfl, .inl (SqL.of upd_same), fun l nl => ?_⟩
    have s2 := s1.trans (same_upd (o := .lst (cutV (ns.map V.int) none (some 63))) nl)
    have ecut : cutV (ns.map V.int) none (some 63) = ns.map V.int := by
      have e := cut_front (ns.map V.int) 63
      have e2 : cutV (ns.map V.int) none (some 63) = (ns.map V.int).take 63 := e
      rw [e2, List.take_of_length_le (by rw [List.length_map]; exact hlen)]
    have el : upd (upd H p (.lst (cutV (ns.map V.int) none (some 63)))) l (.lst (cutV (ns.map V.int) none (some 63))) l = some (.lst (ns.map V.int)) := by
      rw [upd_same, ecut]
    revert s2 el
    generalize upd (upd H p (.lst (cutV (ns.map V.int) none (some 63)))) l (.lst (cutV (ns.map V.int) none (some 63))) = H2
    intro s2 el
    have nlH : H l = none := s1.free nl
    -- if cells == []
    refine ⟨.ref l, rfl, Nat.zero_le _, fun z nz => ?_⟩
    have s3 := s2.trans (same_upd (o := .lst []) nz)
    have nlz : l ≠ z := ne_of_none el nz
    have el3 : upd H2 z (.lst []) l = some (.lst (ns.map V.int)) := by rw [upd_ne nlz]; exact el
    refine ⟨.list (ns.map PyData.int), .list [], .lst (SqL.of el3) (dp_ints ns), .lst (SqL.of upd_same) .nil, shaped_ints ns, shaped_ints [], ?_⟩
    cases ns with
    | nil =>
      refine ⟨true, by rw [eqv_nil0], iteT ?_⟩
      refine ⟨(by show 1 ≤ sizeLine; decide), fun c nc => ?_⟩
      exact fin _ c [_] none (s3.trans (same_upd nc)) (s3.free nc) upd_same (by simp) (by decide)
    | cons n r =>
      refine ⟨false, by rw [eqv_nil], iteF ?_⟩
      exact fin _ l (n :: r) none s3 nlH el3 (by simp) hlen
end

/-- a def of the text that keeps a promise, as its callers see it -/
def Cal (P : Program) (w : World) (K : PySem.W.Frag) (mg : Str → Option Value) (base : Heap) (k : Nat) (x : Str) (ps : List Str) (sp : Sp) : Prop :=
  ∃ f fd, FnOk P w K mg base CX0 k f fd ps sp ∧ mg x = some (.ref f) ∧ PySem.W.keepIn K (.ref f) = true ∧ Binds K fd ps []
theorem pe_own {X : Cx} {k : Nat} {x : Str} {ps : List Str} {sp : Sp} {e : Expr} {es : List Expr} {t : TA} {p pos : Pos} (C : Cal X.prog X.w X.K X.mg X.base k x ps sp) (hr : Room k X.A) (hg : Gl X x) (ha : PA X (e :: es) t)
    (dbg : (x == ("__debug__" : Str)) = false := by decide) (one : starEach (e :: es) X.env = (false, eval e X.env) :: starEach es X.env := by rfl) (star : (backTo pos (starEach es X.env)).any (·.1) = false := by rfl) :
    PE X (.Call (.Name x p) (e :: es) [] pos) (tCall sp [] E0 t) := by
  obtain ⟨f, fd, F, hm, hk, hb⟩ := C
  exact pe_call F hr hg hm hk hb .nil pass0 ha dbg one star
theorem StAt.same {H H' : Hp} {d c : Addr} {t : Int} (h : StAt H d c t) (s : Same H H') : StAt H' d c t :=
  ⟨s _ _ h.dict, let ⟨cs, e, r⟩ := h.cells; ⟨cs, s _ _ e, r⟩, h.pos⟩
theorem Kp.same {H H' : Hp} (d c : Addr) (s : Same H H') : Kp d c H H' := fun b o _ _ e => s b o e
/-- what is made behind the state stays -/
theorem Kp.at {H H' : Hp} {d c a : Addr} {t : Int} {o : HO} (k : Kp d c H H') (S : StAt H d c t) (e : H a = some o) (h1 : ∀ kvs, o ≠ .dK kvs) (h2 : ∀ ns : List Int, o ≠ .lst (ns.map V.int)) : H' a = some o := by
  obtain ⟨cs, ec, _⟩ := S.cells
  refine k a o (fun z => ?_) (fun z => ?_) e
  · rw [z, S.dict] at e
    exact h1 _ (Option.some.inj e).symm
  · rw [z, ec] at e
    exact h2 _ (Option.some.inj e).symm
theorem StAt.upd {H : Hp} {d c l : Addr} {t : Int} {o : HO} (S : StAt H d c t) (h1 : l ≠ d) (h2 : l ≠ c) : StAt (L2.upd H l o) d c t := by
  refine ⟨by rw [upd_ne h1.symm]; exact S.dict, ?_, S.pos⟩
  obtain ⟨cs, ec, r⟩ := S.cells
  exact ⟨cs, by rw [upd_ne h2.symm]; exact ec, r⟩

theorem _root_.GP.Prs.same {H H' : Hp} {vs : List V} {ps : List (Int × Int)} (h : Prs H vs ps) (s : Same H H') : Prs H' vs ps :=
  ⟨h.1, fun i p e => let ⟨a, e1, e2⟩ := h.2 i p e; ⟨a, e1, s _ _ e2⟩⟩
theorem _root_.GP.Prs.kp {H H' : Hp} {d c : Addr} {t : Int} {vs : List V} {ps : List (Int × Int)} (h : Prs H vs ps) (S : StAt H d c t) (k : Kp d c H H') : Prs H' vs ps :=
  ⟨h.1, fun i p e => let ⟨a, e1, e2⟩ := h.2 i p e; ⟨a, e1, k.at S e2 (fun _ z => nomatch z) (fun _ z => nomatch z)⟩⟩
theorem _root_.GP.Prs.upd_lst {H : Hp} {l : Addr} {xs : List V} {o : HO} {vs : List V} {ps : List (Int × Int)} (h : Prs H vs ps) (hl : H l = some (.lst xs)) : Prs (upd H l o) vs ps :=
  ⟨h.1, fun i p e => let ⟨a, e1, e2⟩ := h.2 i p e; ⟨a, e1, by rw [upd_ne (ne_of e2 hl (fun z => nomatch z))]; exact e2⟩⟩
theorem _root_.GP.Prs.nil {H : Hp} : Prs H [] [] := ⟨rfl, fun i p e => by simp at e⟩
theorem _root_.GP.Prs.snoc {H : Hp} {a : Addr} {x y : Int} {vs : List V} {ps : List (Int × Int)} (h : Prs H vs ps) (e : H a = some (.tup [.int x, .int y])) : Prs H (vs ++ [.ref a]) (ps ++ [(x, y)]) := by
  refine ⟨by simp [h.1], fun i p ep => ?_⟩
  by_cases hi : i < ps.length
  · rw [List.getElem?_append_left hi] at ep
    obtain ⟨b, e1, e2⟩ := h.2 i p ep
    exact ⟨b, by rw [List.getElem?_append_left (by rw [h.1]; exact hi)]; exact e1, e2⟩
  · rw [List.getElem?_append_right (by omega)] at ep
    have hz : i - ps.length = 0 := by
      cases hq : i - ps.length with
      | zero => rfl
      | succ n => rw [hq] at ep; simp at ep
    rw [hz] at ep
    have ep' : (x, y) = p := by simpa using ep
    subst ep'
    refine ⟨a, ?_, e⟩
    rw [List.getElem?_append_right (by rw [h.1]; omega), h.1, hz]
    rfl
/-- rising stretches with gaps, from lo on -/
def Ris : Int → List (Int × Int) → Prop
  | _, [] => True
  | lo, p :: r => lo ≤ p.1 ∧ p.1 ≤ p.2 ∧ Ris (p.2 + 2) r
theorem Ris.snoc : ∀ {lo : Int} {ps : List (Int × Int)} {a b : Int}, Ris lo ps → lo ≤ a → (∀ p ∈ ps, p.2 + 2 ≤ a) → a ≤ b → Ris lo (ps ++ [(a, b)])
  | lo, [], a, b, _, h1, _, h3 => ⟨h1, h3, True.intro⟩
  | lo, p :: r, a, b, h, h1, h2, h3 => ⟨h.1, h.2.1, Ris.snoc h.2.2 (h2 p (List.mem_cons_self ..)) (fun q hq => h2 q (List.mem_cons_of_mem _ hq)) h3⟩
theorem pick2 {x y r : Int} (Pv : Int → Prop) (h0 : 0 ≤ r) (h1 : r < 2) (hx : Pv x) (hy : Pv y) : ∃ v, Pv v ∧ atI [V.int x, V.int y] r = some (.int v) := by
  have : r = 0 ∨ r = 1 := by omega
  rcases this with rfl | rfl
  · exact ⟨x, hx, rfl⟩
  · exact ⟨y, hy, rfl⟩
theorem pick3 {x y z r : Int} (Pv : Int → Prop) (h0 : 0 ≤ r) (h1 : r < 3) (hx : Pv x) (hy : Pv y) (hz : Pv z) : ∃ v, Pv v ∧ atI [V.int x, V.int y, V.int z] r = some (.int v) := by
  have : r = 0 ∨ r = 1 ∨ r = 2 := by omega
  rcases this with rfl | rfl | rfl
  · exact ⟨x, hx, rfl⟩
  · exact ⟨y, hy, rfl⟩
  · exact ⟨z, hz, rfl⟩
/-- a new object stands through the state's change -/
theorem Kp.new {H H' : Hp} {d c l : Addr} {t : Int} {o : HO} (k : Kp d c (upd H l o) H') (S : StAt H d c t) (n : H l = none) : H' l = some o := by
  obtain ⟨cs, ec, _⟩ := S.cells
  exact k l o (ne_of_none S.dict n).symm (ne_of_none ec n).symm upd_same
theorem drop_at {α : Type} {l : List α} {i : Nat} {x : α} (h : l[i]? = some x) : l.drop i = x :: l.drop (i + 1) := by
  obtain ⟨lt, e⟩ := List.getElem?_eq_some_iff.mp h
  rw [← e]
  exact List.drop_eq_getElem_cons lt
theorem prs_at {H : Hp} {vs : List V} {ps : List (Int × Int)} {i : Nat} {x : V} (h : Prs H vs ps) (e : vs[i]? = some x) : ∃ (p : Int × Int) (a : Addr), ps[i]? = some p ∧ x = .ref a ∧ H a = some (.tup [.int p.1, .int p.2]) := by
  obtain ⟨hi, _⟩ := List.getElem?_eq_some_iff.mp e
  have hi2 : i < ps.length := by rw [← h.1]; exact hi
  obtain ⟨a, e1, e2⟩ := h.2 i ps[i] (List.getElem?_eq_getElem hi2)
  rw [e] at e1
  exact ⟨ps[i], a, List.getElem?_eq_getElem hi2, Option.some.inj e1, e2⟩

theorem sumP_append (g : Int → Int → Int) (ps qs : List (Int × Int)) : sumP g (ps ++ qs) = sumP g ps + sumP g qs := by
  unfold sumP
  rw [List.map_append, List.sum_append]
def inB (n a b : Int) : Bool := decide (a ≤ n) && decide (n ≤ b)
theorem Ris.le : ∀ {lo : Int} {ps : List (Int × Int)}, Ris lo ps → ∀ p ∈ ps, lo ≤ p.1 ∧ p.1 ≤ p.2
  | _, [], _, _, hp => nomatch hp
  | lo, q :: r, h, p, hp => by
    rcases List.mem_cons.mp hp with e | e'
    · rw [e]; exact ⟨h.1, h.2.1⟩
    · have := Ris.le h.2.2 p e'
      have := h.2.1
      have := h.1
      omega

/-! ### walks over a list or a tuple -/
def Sq (K : PySem.W.Frag) (H : Hp) (a : Addr) (xs : List V) : Prop := SqL K H a xs ∨ SqT K H a xs
def iSeq (K : PySem.W.Frag) (tl : TE) : TI := fun σ H R => tl σ H fun x H1 => ∃ a, x = .ref a ∧ (((∃ xs, SqL K H1 a xs) ∧ R (Itl K a) H1) ∨ ((∃ xs, SqT K H1 a xs) ∧ R (Itt K a) H1))
/-- the iterator that was just laid is no one's -/
theorem lone {X : Cx} {pins : List (Addr × Obj)} {σ : L2.St} {H : Hp} {s : Shared} (I : Inv X pins σ H s) : ∀ b ∈ [s.heap.objs.size], FpOk X pins H b := fun b hb => by
  rw [List.mem_singleton.mp hb]
  exact I.fpOk (H' := H) (Nat.le_refl _) (I.hok.fresh (Nat.le_refl _))
theorem pi_seq {X : Cx} {tg l : Expr} {tl : TE} (walked : PE X l tl) : PI X tg l (iSeq X.K tl) := by
  constructor
  intro pins s σ H R I h
  refine thn (walked.run pins s σ H _ I h) fun u s1 had => ?_
  obtain ⟨_, H1, J, rel, a, rfl, had⟩ := had
  cases rel
  have laid : ∀ o, Inv X pins σ H1 { s1 with heap := s1.heap.push o } := fun o => J.kept (t' := s1.toks) fun _ _ e => Heap.get?_push_of_some _ e
  rcases had with ⟨⟨xs, hq⟩, q⟩ | ⟨⟨xs, hq⟩, q⟩
  · obtain ⟨its, _, isL, _⟩ := J.list hq
    exact wpAny_pyIter_list isL.isList ⟨_, _, _, _, H1, rfl, laid _, turn_list a _, ⟨_, Heap.get?_push_size _ rfl, rfl, rfl⟩, lone J, q⟩
  · obtain ⟨its, _, isT, _⟩ := J.tuple hq
    exact wpAny_pyIter_tuple (items := its.toArray) isT ⟨_, _, _, _, H1, rfl, laid _, turn_tuple a _, ⟨_, Heap.get?_push_size _ rfl, rfl, rfl⟩, lone J, q⟩
/-- the walked thing stands as it stood -/
def SqTo (K : PySem.W.Frag) (H H' : Hp) (a : Addr) (xs : List V) : Prop := (SqL K H a xs → SqL K H' a xs) ∧ (SqT K H a xs → SqT K H' a xs)
theorem SqTo.refl {K : PySem.W.Frag} {H : Hp} {a : Addr} {xs : List V} : SqTo K H H a xs := ⟨fun h => h, fun h => h⟩
theorem same_t {K : PySem.W.Frag} {H H' : Hp} {a : Addr} {xs : List V} (s : Same H H') (h : SqT K H a xs) : SqT K H' a xs :=
  h.elim (fun r => .inl (r.elim (fun e => .inl (s a _ e)) fun ⟨o, e⟩ => .inr ⟨o, s a _ e⟩)) .inr
theorem SqTo.same {K : PySem.W.Frag} {H H' : Hp} {a : Addr} {xs : List V} (s : Same H H') : SqTo K H H' a xs := ⟨s.seq, same_t s⟩
theorem Sq.same {K : PySem.W.Frag} {H H' : Hp} {a : Addr} {xs : List V} (h : Sq K H a xs) (s : Same H H') : Sq K H' a xs := h.elim (fun h => .inl (s.seq h)) fun h => .inr (same_t s h)
theorem Sq.list {K : PySem.W.Frag} {H : Hp} {a : Addr} {xs : List V} (h : H a = some (.lst xs)) : Sq K H a xs := .inl (SqL.of h)
theorem Sq.tup {K : PySem.W.Frag} {H : Hp} {a : Addr} {xs : List V} (h : H a = some (.tup xs)) : Sq K H a xs := .inr (.inl (.inl h))
abbrev ForR (J : It) (g : TG) (tb : TS) (D : Ends) (σ : L2.St) (H1 : Hp) : Prop := ∃ W : Nat → Nat → L2.St → Hp → Prop, (∃ m, W 0 m σ H1) ∧ ∀ i m σ H, W i m σ H →
  (J.stop i H ∧ D.nx σ H) ∨ (J.go i H ∧ ∃ N : L2.St → Hp → Prop, (∀ σ' H', N σ' H' → ∃ m', m' < m ∧ W (i + 1) m' σ' H') ∧ ∀ x H', J.yld i H x H' → g x σ H' fun σ2 H2 => tb { D with nx := N, ct := N, bk := D.nx } σ2 H2)
theorem for_seq {K : PySem.W.Frag} {a : Addr} {xs : List V} {g : TG} {tb : TS} {D : Ends} {σ : L2.St} {H1 : Hp} (hq : Sq K H1 a xs) (Pv : Nat → L2.St → Hp → Prop) (h0 : Pv 0 σ H1)
    (hl : ∀ i σ H', i ≤ xs.length → Pv i σ H' → SqTo K H1 H' a xs)
    (turn : ∀ i x σ H, xs[i]? = some x → Pv i σ H → g x σ H fun σ2 H2 => tb { D with nx := Pv (i + 1), ct := Pv (i + 1), bk := D.nx } σ2 H2) (fin : ∀ σ H, Pv xs.length σ H → D.nx σ H) :
    ((∃ xs, SqL K H1 a xs) ∧ ForR (Itl K a) g tb D σ H1) ∨ ((∃ xs, SqT K H1 a xs) ∧ ForR (Itt K a) g tb D σ H1) := by
  rcases hq with h | h
  · exact .inl ⟨⟨xs, h⟩, for_list (xs := xs) Pv h0 (fun i σ H' hi p => (hl i σ H' hi p).1 h) turn fin⟩
  · exact .inr ⟨⟨xs, h⟩, for_tup (xs := xs) Pv h0 (fun i σ H' hi p => (hl i σ H' hi p).2 h) turn fin⟩

/-! ### pairs as data -/
def pairD (p : Int × Int) : PyData := .tuple [.int p.1, .int p.2]
theorem dp_prs {K : PySem.W.Frag} {H : Hp} : ∀ {us : List V} {ps : List (Int × Int)}, Prs H us ps → DpAll K H us (ps.map pairD)
  | [], [], _ => .nil
  | [], _ :: _, h => nomatch h.1
  | _ :: _, [], h => nomatch h.1
  | u :: us, p :: ps, h => by
    obtain ⟨a, e1, e2⟩ := h.2 0 p rfl
    have eu : u = .ref a := Option.some.inj e1
    subst eu
    refine .cons (.tup (.inl (.inl e2)) (.cons (.int _) (.cons (.int _) .nil))) (dp_prs ⟨Nat.succ.inj h.1, fun i q e => ?_⟩)
    obtain ⟨b, f1, f2⟩ := h.2 (i + 1) q e
    exact ⟨b, f1, f2⟩
theorem lay_prs : ∀ ps : List (Int × Int), PyData.canLayAll0 (ps.map pairD) = true
  | [] => by simp only [List.map_nil, PyData.canLayAll0]
  | p :: r => by
    rw [List.map_cons, PyData.canLayAll0, lay_prs r]
    simp [pairD, PyData.canLay0, PyData.canLayAll0]
theorem depth_prs : ∀ ps : List (Int × Int), PyData.depthAll (ps.map pairD) ≤ 1
  | [] => by simp only [List.map_nil, PyData.depthAll]; omega
  | p :: r => by
    rw [List.map_cons, PyData.depthAll]  -- a pair, then the rest
    have := depth_prs r
    simp [pairD, PyData.depth, PyData.depthAll]
    omega
theorem shaped_prs (ps : List (Int × Int)) : SeqAt.shaped (PyData.list (ps.map pairD)) = true := by
  unfold SeqAt.shaped
  rw [PyData.canLay0, lay_prs, PyData.depth, Bool.true_and]
  exact decide_eq_true (by have := depth_prs ps; omega)
theorem eqv_prs (ps : List (Int × Int)) : PyData.eqv (PyData.list (ps.map pairD)) (PyData.list (ps.map pairD)) = true := SeqAt.eqv_refl _ (by rw [PyData.canLay0]; exact lay_prs ps)
theorem tabG_tabbed {Pt Pu : Addr} {H H2 : Hp} (g : GxR.TabG H Pu) (x : GxR.Tabbed Pt H H2) : GxR.TabG H2 Pu := by
  by_cases e : Pu = Pt
  · rw [e]; exact x.1
  · obtain ⟨ps, h, r⟩ := g
    exact ⟨ps, by rw [x.2 _ e]; exact h, r⟩

theorem Kp.free {H H' : Hp} {d c l : Addr} {t' : Int} (k : Kp d c H H') (S' : StAt H' d c t') (n : H' l = none) : H l = none := by
  cases e : H l with
  | none => rfl
  | some o =>
    obtain ⟨cs1, ec1, _⟩ := S'.cells
    have z := k l o (ne_of_none S'.dict n).symm (ne_of_none ec1 n).symm e
    rw [n] at z
    cases z
theorem StAt.off {H : Hp} {d c l : Addr} {t : Int} (S : StAt H d c t) (n : H l = none) : l ≠ d ∧ l ≠ c := by
  obtain ⟨cs1, ec1, _⟩ := S.cells
  exact ⟨(ne_of_none S.dict n).symm, (ne_of_none ec1 n).symm⟩
/-- no whole number among these: so it's not the draws' cells -/
def NoInt (xs : List V) : Prop := ∀ x ∈ xs, ∀ i, x ≠ .int i
theorem Kp.lst {H H' : Hp} {d c a : Addr} {t : Int} {xs : List V} (k : Kp d c H H') (S : StAt H d c t) (e : H a = some (.lst xs)) (h : NoInt xs) : H' a = some (.lst xs) := by
  obtain ⟨cs, ec, hne, _⟩ := S.cells
  refine k a _ (fun z => ?_) (fun z => ?_) e
  · rw [z, S.dict] at e
    cases e
  · rw [z, ec] at e
    have e' : cs.map V.int = xs := HO.lst.inj (Option.some.inj e)
    cases cs with
    | nil => exact hne rfl
    | cons n r => exact h (.int n) (e' ▸ List.mem_cons_self ..) n rfl
theorem Kp.tup {H H' : Hp} {d c a : Addr} {t : Int} {xs : List V} (k : Kp d c H H') (S : StAt H d c t) (e : H a = some (.tup xs)) : H' a = some (.tup xs) := k.at S e (fun _ z => nomatch z) (fun _ z => nomatch z)
theorem noInt_strs (xs : List Str) : NoInt (xs.map V.str) := fun x hx i e => by
  obtain ⟨y, _, rfl⟩ := List.mem_map.mp hx
  cases e
theorem noInt_prs {H : Hp} {us : List V} {ps : List (Int × Int)} (h : Prs H us ps) : NoInt us := fun x hx i e => by
  obtain ⟨j, hj, e1⟩ := List.getElem_of_mem hx
  obtain ⟨p, a, _, rfl, _⟩ := prs_at h (by rw [List.getElem?_eq_getElem hj, e1])
  cases e

/-- a text of one sign -/
def sgS (c : Nat) : Str := ⟨#[c]⟩
def sgn (c : Nat) : V := .str (sgS c)
def spNames : Sp := fun vs H Q _ => ∃ (d c : Addr) (t m : Int), vs = [.ref d, .int m] ∧ StAt H d c t ∧ t + 100 < 2 ^ 60 ∧ 0 ≤ m ∧ m ≤ 20 ∧
  ∀ (l : Addr) (xs : List Str) (t' : Int) H', H l = none → H' l = some (.lst (xs.map V.str)) → (∀ x ∈ xs, PyData.strOk x = true) → (xs.length : Int) = m → xs.Nodup → t ≤ t' → t' ≤ t + 20 → StAt H' d c t' → Kp d c H H' → Q (.ref l) H'
theorem join_small {cs : List Nat} (h : cs.length ≤ 10) : ((cs.map sgS).map (·.length)).sum + (cs.map sgS).length * ("" : Str).length ≤ 16777216 := by
  have e : ((cs.map sgS).map (·.length)).sum = cs.length := by
    induction cs with
    | nil => rfl
    | cons c r ih =>
      rw [List.map_cons, List.map_cons, List.sum_cons, ih (by rw [List.length_cons] at h; omega), List.length_cons]
      show 1 + r.length = r.length + 1
      omega
  rw [e, show ("" : Str).length = 0 from rfl, Nat.mul_zero]
  omega
theorem joinL_ones : ∀ cs : List Nat, TL.joinL [] (cs.map fun c => [c]) = cs
  | [] => rfl
  | [_] => rfl
  | c :: c2 :: r => by
    have ih := joinL_ones (c2 :: r)
    show [c] ++ ([] ++ TL.joinL [] ((c2 :: r).map fun c => [c])) = _
    rw [ih]
    rfl
theorem join_ok {cs : List Nat} (h : ∀ c ∈ cs, c < 1114112) : PyData.strOk (Txt.join "" (cs.map sgS)) = true := by
  have e : Txt.join "" (cs.map sgS) = SX.S cs := by
    have z := SX.join_S [] (cs.map fun c => [c])
    rw [joinL_ones, List.map_map] at z
    exact z
  rw [e]
  show (Array.all _ _) = true
  rw [Array.all_eq_true']
  intro c hc
  exact decide_eq_true (h c (by simpa using hc))
/-- words that are unlike at one sign -/
def Spelt (abc : Str) (N fi sv : Int) (js : Nat) (xs : List Str) : Prop := ∀ (k : Nat) x, xs[k]? = some x → ∃ (cs : List Nat) (ch : Nat), x = SX.S cs ∧ cs[js]? = some ch ∧ atI abc.cps.toList ((fi + sv * (k : Int)) % N) = some ch
theorem join_eq (cs : List Nat) : Txt.join "" (cs.map sgS) = SX.S cs := by
  have z := SX.join_S [] (cs.map fun c => [c])
  rw [joinL_ones, List.map_map] at z
  exact z
theorem Spelt.snoc {abc : Str} {N fi sv : Int} {js i : Nat} {xs : List Str} {cs : List Nat} {ch : Nat} (h : Spelt abc N fi sv js xs) (hl : xs.length = i) (e1 : cs[js]? = some ch) (e2 : atI abc.cps.toList ((fi + sv * (i : Int)) % N) = some ch) : Spelt abc N fi sv js (xs ++ [Txt.join "" (cs.map sgS)]) := fun k x e => by
  by_cases hk : k < xs.length
  · rw [List.getElem?_append_left hk] at e
    exact h k x e
  · rw [List.getElem?_append_right (by omega)] at e
    have hz : k - xs.length = 0 := by
      cases hq : k - xs.length with
      | zero => rfl
      | succ n => rw [hq] at e; cases e
    rw [hz] at e
    cases e
    have hki : k = i := by omega
    subst hki
    exact ⟨cs, ch, join_eq cs, e1, e2⟩
theorem Spelt.nodup {abc : Str} {N fi sv : Int} {js : Nat} {xs : List Str} (h : Spelt abc N fi sv js xs) (hN : 0 < N) (hl : (abc.cps.toList.length : Int) = N) (hn : abc.cps.toList.Nodup) (far : ∀ k k' : Nat, k < xs.length → k' < xs.length → (fi + sv * (k : Int)) % N = (fi + sv * (k' : Int)) % N → k = k') : xs.Nodup := by
  refine List.pairwise_iff_getElem.mpr fun i j hi hj hij ex => ?_
  obtain ⟨cs1, c1, e1, f1, g1⟩ := h i xs[i] (List.getElem?_eq_getElem hi)
  obtain ⟨cs2, c2, e2, f2, g2⟩ := h j xs[j] (List.getElem?_eq_getElem hj)
  rw [e1, e2] at ex
  have ec : cs1 = cs2 := SX.S_inj ex
  rw [ec, f2] at f1
  have ecc : c2 = c1 := Option.some.inj f1
  rw [← ecc] at g1
  obtain ⟨a, ha⟩ := Int.eq_ofNat_of_zero_le (Int.emod_nonneg (fi + sv * (i : Int)) (show N ≠ 0 by omega))
  obtain ⟨b, hb⟩ := Int.eq_ofNat_of_zero_le (Int.emod_nonneg (fi + sv * (j : Int)) (show N ≠ 0 by omega))
  have la := Int.emod_lt_of_pos (fi + sv * (i : Int)) hN
  have lb := Int.emod_lt_of_pos (fi + sv * (j : Int)) hN
  rw [ha] at g1 la
  rw [hb] at g2 lb
  have a1 : a < abc.cps.toList.length := by omega
  have b1 : b < abc.cps.toList.length := by omega
  have g1' : abc.cps.toList[a]? = some c2 := by
    have z := atI_nat (List.getElem?_eq_getElem a1)
    rw [z] at g1
    rw [List.getElem?_eq_getElem a1]
    exact g1
  have g2' : abc.cps.toList[b]? = some c2 := by
    have z := atI_nat (List.getElem?_eq_getElem b1)
    rw [z] at g2
    rw [List.getElem?_eq_getElem b1]
    exact g2
  have eab : a = b := (List.getElem?_inj a1 hn).mp (g1'.trans g2'.symm)
  have := far i j (by omega) hj (by rw [ha, hb, eab])
  omega
/-! ### _law_names -/

theorem snoc_cases {α : Type} (l : List α) : l = [] ∨ ∃ l' x, l = l' ++ [x] := by
  rcases List.eq_nil_or_concat l with h | ⟨l', x, h⟩
  · exact .inl h
  · exact .inr ⟨l', x, by rw [h]; simp⟩
theorem _root_.GP.Prs.last {H : Hp} {us : List V} {ps : List (Int × Int)} {p : Int × Int} (h : Prs H us (ps ++ [p])) : ∃ us' T, us = us' ++ [.ref T] ∧ H T = some (.tup [.int p.1, .int p.2]) ∧ Prs H us' ps := by
  have hl := h.1
  rw [List.length_append] at hl
  rcases snoc_cases us with e | ⟨us', x, e⟩
  · rw [e] at hl
    simp at hl
  · subst e
    rw [List.length_append] at hl
    have hl' : us'.length = ps.length := Nat.add_right_cancel hl
    obtain ⟨T, e1, e2⟩ := h.2 ps.length p (by rw [List.getElem?_append_right (Nat.le_refl _), Nat.sub_self]; rfl)
    rw [List.getElem?_append_right (by omega), hl', Nat.sub_self] at e1
    refine ⟨us', T, by rw [Option.some.inj e1], e2, hl', fun i q eq => ?_⟩
    have hi : i < ps.length := (List.getElem?_eq_some_iff.mp eq).1
    obtain ⟨b, f1, f2⟩ := h.2 i q (by rw [List.getElem?_append_left hi]; exact eq)
    rw [List.getElem?_append_left (by omega)] at f1
    exact ⟨b, f1, f2⟩
theorem eqv_pr_nil (ps : List (Int × Int)) : PyData.eqv (PyData.list (ps.map pairD)) (PyData.list []) = ps.isEmpty := by
  cases ps with
  | nil => simp [PyData.eqv, PyData.eqvAll]
  | cons p r => simp [PyData.eqv, PyData.eqvAll]
def rIxS (K : PySem.W.Frag) : R2 := fun x y H Q => ∃ p xs i v, x = .ref p ∧ y = .int i ∧ Sq K H p xs ∧ atI xs i = some v ∧ Q v H
theorem ix_seq {X : Cx} : IxR X (rIxS X.K) := by
  intro value slice pins s σ H x y v u Q I rx ry h hs
  obtain ⟨p, xs, i, z, e1, e2, hq, he, q⟩ := h
  rcases hq with hq | hq
  · exact ix_list value slice pins s σ H x y v u Q I rx ry ⟨p, xs, i, z, e1, e2, hq, he, q⟩ hs
  · exact ix_tup value slice pins s σ H x y v u Q I rx ry ⟨p, xs, i, z, e1, e2, hq, he, q⟩ hs

/-! ### the table of the def that holds the generator expression -/
theorem tab_at {Pt : Addr} {H H2 : Hp} {b : Addr} {o : HO} (g : GxR.TabG H Pt) (t : GxR.Tabbed Pt H H2) (e : H b = some o) (h : ∀ q, o ≠ .tbl q) : H2 b = some o := by
  obtain ⟨ps, hP, _⟩ := g
  rw [t.2 b (ne_of e hP (h ps))]
  exact e
theorem StAt.tab {Pt : Addr} {H H2 : Hp} {d c : Addr} {t : Int} (S : StAt H d c t) (g : GxR.TabG H Pt) (x : GxR.Tabbed Pt H H2) : StAt H2 d c t :=
  ⟨tab_at g x S.dict (fun _ z => nomatch z), let ⟨cs, e, r⟩ := S.cells; ⟨cs, tab_at g x e (fun _ z => nomatch z), r⟩, S.pos⟩
theorem _root_.GP.Prs.tab {Pt : Addr} {H H2 : Hp} {vs : List V} {ps : List (Int × Int)} (h : Prs H vs ps) (g : GxR.TabG H Pt) (x : GxR.Tabbed Pt H H2) : Prs H2 vs ps :=
  ⟨h.1, fun i p e => let ⟨a, e1, e2⟩ := h.2 i p e; ⟨a, e1, tab_at g x e2 (fun _ z => nomatch z)⟩⟩
theorem tabG_same {Pt : Addr} {H H' : Hp} (g : GxR.TabG H Pt) (s : Same H H') : GxR.TabG H' Pt := let ⟨ps, e, r⟩ := g; ⟨ps, s _ _ e, r⟩
theorem tabG_kp {Pt : Addr} {H H' : Hp} {d c : Addr} {t : Int} (g : GxR.TabG H Pt) (S : StAt H d c t) (k : Kp d c H H') : GxR.TabG H' Pt := let ⟨ps, e, r⟩ := g; ⟨ps, k.at S e (fun _ z => nomatch z) (fun _ z => nomatch z), r⟩
theorem tabG_upd {Pt : Addr} {H : Hp} {l : Addr} {o u : HO} (g : GxR.TabG H Pt) (e : H l = some o) (h : ∀ q, o ≠ .tbl q) : GxR.TabG (upd H l u) Pt := let ⟨ps, eP, r⟩ := g; ⟨ps, by rw [upd_ne (ne_of e eP (h ps)).symm]; exact eP, r⟩
theorem tabbed_free {Pt : Addr} {H H2 : Hp} {p : Addr} (g : GxR.TabG H Pt) (x : GxR.Tabbed Pt H H2) (h : H2 p = none) : H p = none := by
  obtain ⟨ps, e, _⟩ := x.1
  rw [← x.2 p (fun z => by rw [z, e] at h; cases h)]
  exact h

/-- a walk over what stood before a list was begun -/
theorem for_seqS {K : PySem.W.Frag} {a : Addr} {xs : List V} {g : TG} {tb : TS} {D : Ends} {σ : L2.St} {H0 H1 : Hp} (hq : Sq K H0 a xs) (s1 : Same H0 H1) (Pv : Nat → L2.St → Hp → Prop) (h0 : Pv 0 σ H1)
    (hl : ∀ i σ H', Pv i σ H' → Same H0 H')
    (turn : ∀ i x σ H, xs[i]? = some x → Pv i σ H → g x σ H fun σ2 H2 => tb { D with nx := Pv (i + 1), ct := Pv (i + 1), bk := D.nx } σ2 H2) (fin : ∀ σ H, Pv xs.length σ H → D.nx σ H) :
    ((∃ xs, SqL K H1 a xs) ∧ ForR (Itl K a) g tb D σ H1) ∨ ((∃ xs, SqT K H1 a xs) ∧ ForR (Itt K a) g tb D σ H1) := by
  rcases hq with h | h
  · exact .inl ⟨⟨xs, s1.seq h⟩, for_list (xs := xs) Pv h0 (fun i σ H' _ p => (hl i σ H' p).seq h) turn fin⟩
  · exact .inr ⟨⟨xs, same_t s1 h⟩, for_tup (xs := xs) Pv h0 (fun i σ H' _ p => same_t (hl i σ H' p) h) turn fin⟩

abbrev LcR (J : It) (g : TG) (tt : TT) (te : TE) (vs : List Nat) (σ : L2.St) (D : Addr) (Qd : Addr → Hp → Prop) (H1 : Hp) : Prop := ∃ W : Nat → Nat → Hp → Prop, (∃ m, W 0 m (upd H1 D (.lst []))) ∧ ∀ i m H, W i m H →
  (J.stop i H ∧ Qd D H) ∨ (J.go i H ∧ ∃ Nx : Hp → Prop, (∀ H', Nx H' → ∃ m', m' < m ∧ W (i + 1) m' H') ∧ ∀ x H', J.yld i H x H' → g x (wipe σ vs) H' fun σ2 H2 => wipe σ2 vs = wipe σ vs ∧ tt σ2 H2 fun b H3 => if b = true then
    te σ2 H3 fun y H4 => ∃ acc, H4 D = some (.lst acc) ∧ acc.length < sizeLine ∧ Nx (upd H4 D (.lst (acc ++ [y]))) else Nx H3)
theorem lc_seq {K : PySem.W.Frag} {a : Addr} {xs : List V} {g : TG} {tt : TT} {te : TE} {vs : List Nat} {σ : L2.St} {H1 : Hp} {Qd : Addr → Hp → Prop} (hq : Sq K H1 a xs) (Pv : Addr → Nat → Hp → Prop) (h0 : ∀ D, H1 D = none → Pv D 0 (upd H1 D (.lst [])))
    (still : ∀ D i H', H1 D = none → Pv D i H' → SqTo K H1 H' a xs)
    (turn : ∀ D i x H', H1 D = none → xs[i]? = some x → Pv D i H' → g x (wipe σ vs) H' fun σ2 H2 => wipe σ2 vs = wipe σ vs ∧ tt σ2 H2 fun b H3 =>
      if b = true then te σ2 H3 fun y H4 => ∃ acc, H4 D = some (.lst acc) ∧ acc.length < sizeLine ∧ Pv D (i + 1) (upd H4 D (.lst (acc ++ [y]))) else Pv D (i + 1) H3) (fin : ∀ D H', H1 D = none → Pv D xs.length H' → Qd D H') :
    ((∃ xs, SqL K H1 a xs) ∧ ∀ D, H1 D = none → LcR (Itl K a) g tt te vs σ D Qd H1) ∨ ((∃ xs, SqT K H1 a xs) ∧ ∀ D, H1 D = none → LcR (Itt K a) g tt te vs σ D Qd H1) := by
  rcases hq with h | h
  · exact .inl ⟨⟨xs, h⟩, fun D nD => lc_list (xs := xs) (Pv D) (h0 D nD) (fun i H' _ p => (still D i H' nD p).1 h) (fun i x H' e p => turn D i x H' nD e p) (fun H' p => fin D H' nD p)⟩
  · exact .inr ⟨⟨xs, h⟩, fun D nD => lc_tup (xs := xs) (Pv D) (h0 D nD) (fun i H' _ p => (still D i H' nD p).2 h) (fun i x H' e p => turn D i x H' nD e p) (fun H' p => fin D H' nD p)⟩

/-! ### sets by stretches: the mathematics -/
theorem inB_iff {n a b : Int} : inB n a b = true ↔ a ≤ n ∧ n ≤ b := by
  unfold inB
  rw [Bool.and_eq_true, decide_eq_true_eq (p := a ≤ n), decide_eq_true_eq]
theorem anyP_iff {n : Int} {ps : List (Int × Int)} : anyP (inB n) ps = true ↔ ∃ p ∈ ps, p.1 ≤ n ∧ n ≤ p.2 := by
  unfold anyP
  rw [List.any_eq_true]
  constructor
  · rintro ⟨p, hp, e⟩
    exact ⟨p, hp, inB_iff.mp e⟩
  · rintro ⟨p, hp, e⟩
    exact ⟨p, hp, inB_iff.mpr e⟩
/-- the same numbers -/
def Alike (ps qs : List (Int × Int)) : Prop := ∀ n : Int, (∃ p ∈ ps, p.1 ≤ n ∧ n ≤ p.2) ↔ ∃ p ∈ qs, p.1 ≤ n ∧ n ≤ p.2
theorem Alike.any {ps qs : List (Int × Int)} (h : Alike ps qs) (n : Int) : anyP (inB n) ps = anyP (inB n) qs := by
  rw [Bool.eq_iff_iff, anyP_iff, anyP_iff]
  exact h n
theorem Alike.symm {ps qs : List (Int × Int)} (h : Alike ps qs) : Alike qs ps := fun n => (h n).symm
theorem Alike.trans {ps qs rs : List (Int × Int)} (h : Alike ps qs) (h' : Alike qs rs) : Alike ps rs := fun n => (h n).trans (h' n)
theorem Alike.of_mem {ps qs : List (Int × Int)} (h : ∀ p, p ∈ ps ↔ p ∈ qs) : Alike ps qs := fun n => ⟨fun ⟨p, hp, e⟩ => ⟨p, (h p).mp hp, e⟩, fun ⟨p, hp, e⟩ => ⟨p, (h p).mpr hp, e⟩⟩
/-- of each set of numbers there is just one list -/
theorem ris_one : ∀ {rs rs' : List (Int × Int)} {lo lo' : Int}, Ris lo rs → Ris lo' rs' → Alike rs rs' → rs = rs'
  | [], [], _, _, _, _, _ => by rfl
  | [], q :: r, _, _, _, h', e => by
    obtain ⟨p, hp, _⟩ := (e q.1).mpr ⟨q, List.mem_cons_self .., Int.le_refl _, h'.2.1⟩
    exact nomatch hp
  | q :: r, [], _, _, h, _, e => by
    obtain ⟨p, hp, _⟩ := (e q.1).mp ⟨q, List.mem_cons_self .., Int.le_refl _, h.2.1⟩
    exact nomatch hp
  | (a, b) :: r, (a', b') :: r', lo, lo', h, h', e => by
    have hb : a ≤ b := h.2.1
    have hb' : a' ≤ b' := h'.2.1
    have tl : ∀ p ∈ r, b + 2 ≤ p.1 ∧ p.1 ≤ p.2 := Ris.le h.2.2
    have tl' : ∀ p ∈ r', b' + 2 ≤ p.1 ∧ p.1 ≤ p.2 := Ris.le h'.2.2
    have m1 : a' ≤ a := by
      obtain ⟨p, hp, e1, e2⟩ := (e a).mp ⟨(a, b), List.mem_cons_self .., Int.le_refl _, hb⟩
      rcases List.mem_cons.mp hp with z | z
      · rw [z] at e1; exact e1
      · have := tl' p z; omega
    have m2 : a ≤ a' := by
      obtain ⟨p, hp, e1, e2⟩ := (e a').mpr ⟨(a', b'), List.mem_cons_self .., Int.le_refl _, hb'⟩
      rcases List.mem_cons.mp hp with z | z
      · rw [z] at e1; exact e1
      · have := tl p z; omega
    have ea : a = a' := by omega
    have n1 : ¬ b < b' := fun lt => by
      obtain ⟨p, hp, e1, e2⟩ := (e (b + 1)).mpr ⟨(a', b'), List.mem_cons_self .., by show a' ≤ b + 1; omega, by show b + 1 ≤ b'; omega⟩
      rcases List.mem_cons.mp hp with z | z
      · rw [z] at e2; have : b + 1 ≤ b := e2; omega
      · have := tl p z; omega
    have n2 : ¬ b' < b := fun lt => by
      obtain ⟨p, hp, e1, e2⟩ := (e (b' + 1)).mp ⟨(a, b), List.mem_cons_self .., by show a ≤ b' + 1; omega, by show b' + 1 ≤ b; omega⟩
      rcases List.mem_cons.mp hp with z | z
      · rw [z] at e2; have : b' + 1 ≤ b' := e2; omega
      · have := tl' p z; omega
    have eb : b = b' := by omega
    subst ea eb
    have er : Alike r r' := fun n => by
      constructor
      · rintro ⟨p, hp, e1, e2⟩
        obtain ⟨p', hp', f1, f2⟩ := (e n).mp ⟨p, List.mem_cons_of_mem _ hp, e1, e2⟩
        rcases List.mem_cons.mp hp' with z | z
        · rw [z] at f2
          have : n ≤ b := f2
          have := tl p hp
          omega
        · exact ⟨p', z, f1, f2⟩
      · rintro ⟨p, hp, e1, e2⟩
        obtain ⟨p', hp', f1, f2⟩ := (e n).mpr ⟨p, List.mem_cons_of_mem _ hp, e1, e2⟩
        rcases List.mem_cons.mp hp' with z | z
        · rw [z] at f2
          have : n ≤ b := f2
          have := tl' p hp
          omega
        · exact ⟨p', z, f1, f2⟩
    rw [ris_one h.2.2 h'.2.2 er]
theorem Ris.front : ∀ {lo : Int} {rs : List (Int × Int)} {q : Int × Int}, Ris lo (rs ++ [q]) → Ris lo rs ∧ (∀ r ∈ rs, r.2 + 2 ≤ q.1) ∧ lo ≤ q.1 ∧ q.1 ≤ q.2
  | lo, [], q, h => ⟨True.intro, (fun _ z => nomatch z), h.1, h.2.1⟩
  | lo, r :: rs, q, h => by
    obtain ⟨h1, h2, h3, h4⟩ := Ris.front h.2.2
    refine ⟨⟨h.1, h.2.1, h1⟩, fun x hx => ?_, by have := h.1; have := h.2.1; omega, h4⟩
    rcases List.mem_cons.mp hx with z | z
    · rw [z]; exact h3
    · exact h2 x z
/-- what is told of pairs: a set of just their numbers -/
structure SetLike (ps rs : List (Int × Int)) : Prop where
  ris : ∃ lo, Ris lo rs
  same : Alike rs ps
  len : rs.length ≤ ps.length
/-- between two turns: the pairs so far, rising by their firsts, and what is merged of them -/
structure Mrg (pre rs : List (Int × Int)) : Prop extends SetLike pre rs where
  firsts : ∀ r ∈ rs, ∃ p ∈ pre, p.1 = r.1
theorem alike_snoc {pre : List (Int × Int)} {rs rs' : List (Int × Int)} {p : Int × Int} (h : Alike rs pre) (e : ∀ n, (∃ q ∈ rs', q.1 ≤ n ∧ n ≤ q.2) ↔ (∃ q ∈ rs, q.1 ≤ n ∧ n ≤ q.2) ∨ (p.1 ≤ n ∧ n ≤ p.2)) : Alike rs' (pre ++ [p]) := fun n => by
  rw [e n, h n]
  constructor
  · rintro (⟨q, hq, z⟩ | z)
    · exact ⟨q, List.mem_append_left _ hq, z⟩
    · exact ⟨p, List.mem_append_right _ (List.mem_singleton.mpr rfl), z⟩
  · rintro ⟨q, hq, z⟩
    rcases List.mem_append.mp hq with y | y
    · exact .inl ⟨q, y, z⟩
    · rw [List.mem_singleton.mp y] at z
      exact .inr z
theorem Mrg.join {pre rs : List (Int × Int)} {a b : Int} {p : Int × Int} (m : Mrg pre (rs ++ [(a, b)])) (hp : p.1 ≤ p.2) (ord : ∀ q ∈ pre, q.1 ≤ p.1) (near : p.1 ≤ b + 1) : Mrg (pre ++ [p]) (rs ++ [(a, if p.2 > b then p.2 else b)]) := by
  obtain ⟨lo, hr⟩ := m.ris
  obtain ⟨h1, h2, h3, h4⟩ := Ris.front hr
  obtain ⟨q, hq, eq⟩ := m.firsts (a, b) (List.mem_append_right _ (List.mem_singleton.mpr rfl))
  have hap : a ≤ p.1 := by have := ord q hq; have : q.1 = a := eq; omega
  have hab : a ≤ b := h4
  have big : a ≤ (if p.2 > b then p.2 else b) := by split <;> omega
  refine ⟨⟨⟨lo, h1.snoc h3 h2 big⟩, alike_snoc m.same fun n => ?_, ?_⟩, fun r hr => ?_⟩
  · constructor
    · rintro ⟨q, hq, z⟩
      rcases List.mem_append.mp hq with y | y
      · exact .inl ⟨q, List.mem_append_left _ y, z⟩
      · rw [List.mem_singleton.mp y] at z
        have z1 : a ≤ n := z.1
        have z2 : n ≤ (if p.2 > b then p.2 else b) := z.2
        by_cases c : n ≤ b
        · exact .inl ⟨(a, b), List.mem_append_right _ (List.mem_singleton.mpr rfl), z1, c⟩
        · refine .inr ⟨by omega, ?_⟩
          split at z2 <;> omega
    · rintro (⟨q, hq, z⟩ | z)
      · rcases List.mem_append.mp hq with y | y
        · exact ⟨q, List.mem_append_left _ y, z⟩
        · rw [List.mem_singleton.mp y] at z
          refine ⟨_, List.mem_append_right _ (List.mem_singleton.mpr rfl), z.1, ?_⟩
          have z2 : n ≤ b := z.2
          show n ≤ (if p.2 > b then p.2 else b)
          split <;> omega
      · refine ⟨_, List.mem_append_right _ (List.mem_singleton.mpr rfl), by show a ≤ n; omega, ?_⟩
        show n ≤ (if p.2 > b then p.2 else b)
        split <;> omega
  · have := m.len
    rw [List.length_append, List.length_append] at *
    show rs.length + 1 ≤ pre.length + 1
    have : rs.length + 1 ≤ pre.length := this
    omega
  · rcases List.mem_append.mp hr with y | y
    · obtain ⟨q, hq, e⟩ := m.firsts r (List.mem_append_left _ y)
      exact ⟨q, List.mem_append_left _ hq, e⟩
    · rw [List.mem_singleton.mp y]
      exact ⟨q, List.mem_append_left _ hq, eq⟩
theorem Mrg.new {pre rs : List (Int × Int)} {p : Int × Int} (m : Mrg pre rs) (hp : p.1 ≤ p.2) (ord : ∀ q ∈ pre, q.1 ≤ p.1) (far : ∀ r ∈ rs, r.2 + 2 ≤ p.1) : Mrg (pre ++ [p]) (rs ++ [p]) := by
  obtain ⟨lo, hr⟩ := m.ris
  refine ⟨⟨?_, alike_snoc m.same fun n => ?_, by have := m.len; rw [List.length_append, List.length_append]; show rs.length + 1 ≤ pre.length + 1; omega⟩, fun r hr => ?_⟩
  · cases rs with
    | nil => exact ⟨p.1, Int.le_refl _, hp, True.intro⟩
    | cons q r =>
      refine ⟨lo, hr.snoc ?_ far hp⟩
      have := hr.le q (List.mem_cons_self ..)
      have := far q (List.mem_cons_self ..)
      omega
  · constructor
    · rintro ⟨q, hq, z⟩
      rcases List.mem_append.mp hq with y | y
      · exact .inl ⟨q, y, z⟩
      · rw [List.mem_singleton.mp y] at z; exact .inr z
    · rintro (⟨q, hq, z⟩ | z)
      · exact ⟨q, List.mem_append_left _ hq, z⟩
      · exact ⟨p, List.mem_append_right _ (List.mem_singleton.mpr rfl), z⟩
  · rcases List.mem_append.mp hr with y | y
    · obtain ⟨q, hq, e⟩ := m.firsts r y
      exact ⟨q, List.mem_append_left _ hq, e⟩
    · rw [List.mem_singleton.mp y]
      exact ⟨p, List.mem_append_right _ (List.mem_singleton.mpr rfl), rfl⟩
theorem Mrg.nil : Mrg [] [] := ⟨⟨⟨0, True.intro⟩, fun _ => Iff.rfl, Nat.le_refl _⟩, fun _ z => nomatch z⟩

/-! ### sets put together: the mathematics -/
def InS (ps : List (Int × Int)) (n : Int) : Prop := ∃ p ∈ ps, p.1 ≤ n ∧ n ≤ p.2
theorem inS_nil {n : Int} : ¬ InS [] n := fun ⟨_, h, _⟩ => nomatch h
theorem inS_cons {p : Int × Int} {r : List (Int × Int)} {n : Int} : InS (p :: r) n ↔ (p.1 ≤ n ∧ n ≤ p.2) ∨ InS r n := by
  constructor
  · rintro ⟨q, hq, e⟩
    rcases List.mem_cons.mp hq with z | z
    · rw [z] at e; exact .inl e
    · exact .inr ⟨q, z, e⟩
  · rintro (e | ⟨q, hq, e⟩)
    · exact ⟨p, List.mem_cons_self .., e⟩
    · exact ⟨q, List.mem_cons_of_mem _ hq, e⟩
theorem inS_append {ps qs : List (Int × Int)} {n : Int} : InS (ps ++ qs) n ↔ InS ps n ∨ InS qs n := by
  constructor
  · rintro ⟨q, hq, e⟩
    rcases List.mem_append.mp hq with z | z
    · exact .inl ⟨q, z, e⟩
    · exact .inr ⟨q, z, e⟩
  · rintro (⟨q, hq, e⟩ | ⟨q, hq, e⟩)
    · exact ⟨q, List.mem_append_left _ hq, e⟩
    · exact ⟨q, List.mem_append_right _ hq, e⟩
theorem Ris.low {lo n : Int} {ps : List (Int × Int)} (h : Ris lo ps) (e : InS ps n) : lo ≤ n := by
  obtain ⟨p, hp, e1, e2⟩ := e
  have := h.le p hp
  omega
theorem Ris.mono : ∀ {lo lo' : Int} {ps : List (Int × Int)}, Ris lo ps → lo' ≤ lo → Ris lo' ps
  | _, _, [], _, _ => True.intro
  | _, _, _ :: _, h, e => ⟨Int.le_trans e h.1, h.2⟩
def mxI (i j : Int) : Int := if j > i then j else i
def mnI (i j : Int) : Int := if j < i then j else i
theorem mxI_le {i j n : Int} : mxI i j ≤ n ↔ i ≤ n ∧ j ≤ n := by unfold mxI; split <;> omega
theorem le_mxI {i j n : Int} : n ≤ mxI i j ↔ n ≤ i ∨ n ≤ j := by unfold mxI; split <;> omega
theorem le_mnI {i j n : Int} : n ≤ mnI i j ↔ n ≤ i ∧ n ≤ j := by unfold mnI; split <;> omega
theorem mnI_le {i j n : Int} : mnI i j ≤ n ↔ i ≤ n ∨ j ≤ n := by unfold mnI; split <;> omega
/-- going through both at once -/
def bothF : List (Int × Int) → List (Int × Int) → List (Int × Int)
  | [], _ => []
  | _ :: _, [] => []
  | p :: r, q :: s => (if mxI p.1 q.1 ≤ mnI p.2 q.2 then [(mxI p.1 q.1, mnI p.2 q.2)] else []) ++ (if p.2 < q.2 then bothF r (q :: s) else bothF (p :: r) s)
termination_by ps qs => ps.length + qs.length
theorem bothF_nil (ps : List (Int × Int)) : bothF ps [] = [] := by cases ps <;> rw [bothF]
theorem bothF_ris : ∀ {ps qs : List (Int × Int)} {lo lo' k : Int}, Ris lo ps → Ris lo' qs → (k ≤ lo ∨ k ≤ lo') → Ris k (bothF ps qs)
  | [], _, _, _, _, _, _, _ => by rw [bothF]; exact True.intro
  | _ :: _, [], _, _, _, _, _, _ => by rw [bothF]; exact True.intro
  | p :: r, q :: s, lo, lo', k, h, h', hk => by
    rw [bothF]
    have h1 := h.1
    have h2 := h.2.1
    have h1' := h'.1
    have h2' := h'.2.1
    by_cases c : mxI p.1 q.1 ≤ mnI p.2 q.2
    · rw [if_pos c]
      refine ⟨?_, c, ?_⟩
      · show k ≤ mxI p.1 q.1
        rw [le_mxI]
        omega
      · by_cases d : p.2 < q.2
        · rw [if_pos d]
          refine bothF_ris h.2.2 h' (.inl ?_)
          show mnI p.2 q.2 + 2 ≤ p.2 + 2
          have : mnI p.2 q.2 ≤ p.2 := mnI_le.mpr (.inl (Int.le_refl _))
          omega
        · rw [if_neg d]
          refine bothF_ris h h'.2.2 (.inr ?_)
          show mnI p.2 q.2 + 2 ≤ q.2 + 2
          have : mnI p.2 q.2 ≤ q.2 := mnI_le.mpr (.inr (Int.le_refl _))
          omega
    · rw [if_neg c, List.nil_append]
      by_cases d : p.2 < q.2
      · rw [if_pos d]
        refine bothF_ris h.2.2 h' ?_
        omega
      · rw [if_neg d]
        refine bothF_ris h h'.2.2 ?_
        omega
termination_by ps qs => ps.length + qs.length
theorem bothF_in {n : Int} : ∀ {ps qs : List (Int × Int)} {lo lo' : Int}, Ris lo ps → Ris lo' qs → (InS (bothF ps qs) n ↔ InS ps n ∧ InS qs n)
  | [], _, _, _, _, _ => by rw [bothF]; exact ⟨fun h => absurd h inS_nil, fun h => h.1⟩
  | _ :: _, [], _, _, _, _ => by rw [bothF]; exact ⟨fun h => absurd h inS_nil, fun h => h.2⟩
  | p :: r, q :: s, lo, lo', h, h' => by
    rw [bothF, inS_append, inS_cons, inS_cons]
    have e1 : InS (if mxI p.1 q.1 ≤ mnI p.2 q.2 then [(mxI p.1 q.1, mnI p.2 q.2)] else []) n ↔ (p.1 ≤ n ∧ n ≤ p.2) ∧ (q.1 ≤ n ∧ n ≤ q.2) := by
      by_cases c : mxI p.1 q.1 ≤ mnI p.2 q.2
      · rw [if_pos c, inS_cons]
        show ((mxI p.1 q.1 ≤ n ∧ n ≤ mnI p.2 q.2) ∨ InS [] n) ↔ _
        rw [mxI_le, le_mnI]
        constructor
        · rintro (z | z)
          · omega
          · exact absurd z inS_nil
        · intro z
          exact .inl (by omega)
      · rw [if_neg c]
        constructor
        · exact fun z => absurd z inS_nil
        · intro z
          refine absurd (Int.le_trans (mxI_le.mpr ⟨z.1.1, z.2.1⟩) (le_mnI.mpr ⟨z.1.2, z.2.2⟩)) c
    rw [e1]
    by_cases d : p.2 < q.2
    · rw [if_pos d, bothF_in h.2.2 h', inS_cons]
      have no : InS s n → ¬ n ≤ p.2 := fun z => by
        have := h'.2.2.low z
        omega
      constructor
      · rintro (⟨z1, z2⟩ | ⟨z1, z2⟩)
        · exact ⟨.inl z1, .inl z2⟩
        · exact ⟨.inr z1, z2⟩
      · rintro ⟨z1 | z1, z2 | z2⟩
        · exact .inl ⟨z1, z2⟩
        · exact absurd z1.2 (no z2)
        · exact .inr ⟨z1, .inl z2⟩
        · exact .inr ⟨z1, .inr z2⟩
    · rw [if_neg d, bothF_in h h'.2.2, inS_cons]
      have no : InS r n → ¬ n ≤ q.2 := fun z => by
        have := h.2.2.low z
        omega
      constructor
      · rintro (⟨z1, z2⟩ | ⟨z1, z2⟩)
        · exact ⟨.inl z1, .inl z2⟩
        · exact ⟨z1, .inr z2⟩
      · rintro ⟨z1 | z1, z2 | z2⟩
        · exact .inl ⟨z1, z2⟩
        · exact .inr ⟨.inl z1, z2⟩
        · exact absurd z2.2 (no z1)
        · exact .inr ⟨.inr z1, z2⟩
termination_by ps qs => ps.length + qs.length
/-- what lies between the stretches of a set -/
def gapsF (e : Int) : Int → List (Int × Int) → List (Int × Int)
  | st, [] => [(st, e)]
  | st, p :: r => (st, mnI (p.1 - 1) e) :: gapsF e (mxI st (p.2 + 1)) r
theorem gapsF_length (e : Int) : ∀ (qs : List (Int × Int)) (st : Int), (gapsF e st qs).length = qs.length + 1
  | [], _ => rfl
  | _ :: r, _ => by rw [gapsF, List.length_cons, gapsF_length e r, List.length_cons]
theorem gapsF_in {e n : Int} : ∀ {qs : List (Int × Int)} {lo st : Int}, Ris lo qs → (InS (gapsF e st qs) n ↔ (st ≤ n ∧ n ≤ e) ∧ ¬ InS qs n)
  | [], _, st, _ => by
    rw [gapsF, inS_cons]
    constructor
    · rintro (z | z)
      · exact ⟨z, inS_nil⟩
      · exact absurd z inS_nil
    · exact fun z => .inl z.1
  | p :: r, lo, st, h => by
    rw [gapsF, inS_cons, gapsF_in h.2.2, inS_cons]
    show ((st ≤ n ∧ n ≤ mnI (p.1 - 1) e) ∨ (mxI st (p.2 + 1) ≤ n ∧ n ≤ e) ∧ ¬ InS r n) ↔ _
    rw [le_mnI, mxI_le]
    have h2 := h.2.1
    have no : n ≤ p.2 + 1 → ¬ InS r n := fun z y => by
      have := h.2.2.low y
      omega
    constructor
    · rintro (z | ⟨z, y⟩)
      · refine ⟨by omega, ?_⟩
        rintro (x | x)
        · omega
        · exact no (by omega) x
      · refine ⟨by omega, ?_⟩
        rintro (x | x)
        · omega
        · exact y x
    · rintro ⟨z, y⟩
      by_cases c : n < p.1
      · exact .inl (by omega)
      · refine .inr ⟨?_, fun x => y (.inr x)⟩
        have : ¬ (p.1 ≤ n ∧ n ≤ p.2) := fun x => y (.inl x)
        omega
/-- a set of just the numbers of which pr holds -/
structure Told (pr : Int → Prop) (rs : List (Int × Int)) : Prop where
  ris : ∃ lo, Ris lo rs
  same : ∀ n, InS rs n ↔ pr n
theorem Told.one {pr pr' : Int → Prop} {rs rs' : List (Int × Int)} (h : Told pr rs) (h' : Told pr' rs') (e : ∀ n, pr n ↔ pr' n) : rs = rs' := by
  obtain ⟨lo, r⟩ := h.ris
  obtain ⟨lo', r'⟩ := h'.ris
  exact ris_one r r' fun n => (h.same n).trans ((e n).trans (h'.same n).symm)
theorem Told.of {lo : Int} {rs : List (Int × Int)} (h : Ris lo rs) : Told (InS rs) rs := ⟨⟨lo, h⟩, fun _ => Iff.rfl⟩
theorem SetLike.told {ps rs : List (Int × Int)} (h : SetLike ps rs) : Told (InS ps) rs := ⟨h.ris, h.same⟩
theorem Told.cong {pr pr' : Int → Prop} {rs : List (Int × Int)} (h : Told pr rs) (e : ∀ n, pr n ↔ pr' n) : Told pr' rs := ⟨h.ris, fun n => (h.same n).trans (e n)⟩
theorem Told.nneg {pr : Int → Prop} {rs : List (Int × Int)} (h : Told pr rs) (hn : ∀ n, pr n → 0 ≤ n) : Ris 0 rs := by
  obtain ⟨lo, r⟩ := h.ris
  cases rs with
  | nil => exact True.intro
  | cons p q => exact ⟨hn _ ((h.same _).mp (inS_cons.mpr (.inl ⟨Int.le_refl _, r.2.1⟩))), r.2⟩

theorem cut_back (xs : List V) (m : Nat) : cutV xs (some (m : Int)) none = xs.drop m := by
  unfold cutV
  rw [HT.sIx_none, HT.sIx_nat]
  by_cases h : m ≤ xs.length
  · rw [Nat.min_eq_left h]
    exact List.take_of_length_le (by rw [List.length_drop]; exact Nat.le_refl _)
  · rw [Nat.min_eq_right (by omega), Nat.sub_self, List.take_zero, List.drop_eq_nil_of_le (by omega)]
theorem _root_.GP.Prs.append {H : Hp} {us ws : List V} {ps qs : List (Int × Int)} (h : Prs H us ps) (h' : Prs H ws qs) : Prs H (us ++ ws) (ps ++ qs) := by
  refine ⟨by rw [List.length_append, List.length_append, h.1, h'.1], fun i p e => ?_⟩
  by_cases hi : i < ps.length
  · rw [List.getElem?_append_left hi] at e
    rw [List.getElem?_append_left (by rw [h.1]; exact hi)]
    exact h.2 i p e
  · rw [List.getElem?_append_right (by omega)] at e
    rw [List.getElem?_append_right (by rw [h.1]; omega), h.1]
    exact h'.2 _ p e
theorem _root_.GP.Prs.take {H : Hp} {us : List V} {ps : List (Int × Int)} (h : Prs H us ps) (n : Nat) : Prs H (us.take n) (ps.take n) := by
  refine ⟨by rw [List.length_take, List.length_take, h.1], fun i p e => ?_⟩
  rw [List.getElem?_take] at e ⊢
  split at e
  · rename_i hi
    rw [if_pos hi]
    exact h.2 i p e
  · cases e
theorem _root_.GP.Prs.drop {H : Hp} {us : List V} {ps : List (Int × Int)} (h : Prs H us ps) (n : Nat) : Prs H (us.drop n) (ps.drop n) := by
  refine ⟨by rw [List.length_drop, List.length_drop, h.1], fun i p e => ?_⟩
  rw [List.getElem?_drop] at e ⊢
  exact h.2 _ p e
theorem _root_.GP.Prs.reverse {H : Hp} {us : List V} {ps : List (Int × Int)} (h : Prs H us ps) : Prs H us.reverse ps.reverse := by
  refine ⟨by rw [List.length_reverse, List.length_reverse, h.1], fun i p e => ?_⟩
  have hi : i < ps.length := by
    have z := (List.getElem?_eq_some_iff.mp e).1
    rwa [List.length_reverse] at z
  rw [List.getElem?_reverse hi] at e
  rw [List.getElem?_reverse (by rw [h.1]; exact hi), h.1]
  exact h.2 _ p e

/-! ### set_of -/
/-- the pair that a tracked tuple holds -/
def pairOf (H : Hp) : V → Int × Int
  | .ref t => (match H t with
    | some (.tup [.int i, .int j]) => (i, j)
    | _ => (0, 0))
  | _ => (0, 0)
theorem pairOf_at {H : Hp} {t : Addr} {p : Int × Int} (e : H t = some (.tup [.int p.1, .int p.2])) : pairOf H (.ref t) = p := by
  show (match H t with | some (.tup [.int i, .int j]) => (i, j) | _ => (0, 0)) = p
  rw [e]
abbrev sSetOf : Stmt := topS 1
theorem scSetOf : FnScope ["pairs", "merged", "first", "last", "low", "high", "pair"] ["pairs"] (defScope sSetOf) := ⟨rfl, rfl, rfl, by decide +kernel, rfl, by decide +kernel, by decide +kernel⟩
def spSetOf (K : PySem.W.Frag) : Sp := fun vs H Q _ => ∃ (a : Addr) (us : List V) (ps : List (Int × Int)), vs = [.ref a] ∧ Sq K H a us ∧ Prs H us ps ∧ ps.length ≤ 900 ∧
  ∀ (l : Addr) (ws : List V) (rs : List (Int × Int)) H', H l = none → H' l = some (.lst ws) → Prs H' ws rs → SetLike ps rs → Same H H' → Q (.ref l) H'
section
variable {K : PySem.W.Frag} {mg : Str → Option Value} {P : Program} {w : World} {base : Heap}
theorem ok_setof {f : Addr} {fd : FuncData} {k : Nat} (F : Fun K "set_of" "set_of" sSetOf f fd) (mso : mg "sorted" = none) (mx : mg "max" = none) : FnOk P w K mg base CX0 (k + 1) f fd ["pairs"] (spSetOf K) := by
  refine F.ok scSetOf (fun vs H Q E h => ?_) (fun cdv A outer s H vs Q E hr h => ?_)
  · obtain ⟨a, us, ps, rfl, _⟩ := h
    rfl
  · obtain ⟨a, us, ps, rfl, hq, hp, hz, q⟩ := h
    refine ⟨_, pss_cons (ps_set (i := 1) scSetOf.nd rfl (.inl rfl) (pe_lst pa_nil))
      (pss_cons (ps_for PassesOwn.never rfl (pi_list (pe_callB cr_sortedPO (by rfl) mso (by decide +kernel) (pa_cons (pe_lc (own := [("pair", 6)]) (g := gName 6) (tt := tTest (tOp (rI0 fun i j => .bl (decide (i ≤ j))) (tOp (rIxT K) (tVar 6) (tC (.int 0))) (tOp (rIxT K) (tVar 6) (tC (.int 1))))) rfl scSetOf.nd (pi_seq (pv 0))
          (blkOk_by (own := [("pair", 6)]) (N := ["pairs", "merged", "first", "last", "low", "high", "pair"]) (sc := defScope sSetOf) (by decide +kernel))
          (fun _ _ _ _ _ => pg_name (i := 6) scSetOf.nd rfl (.inl rfl)) (fun _ _ _ _ _ => pts_one (pt_cmpR op_le (pe_ix ix_tup (pv 6) pe_int (fun _ _ => rfl)) (pe_ix ix_tup (pv 6) pe_int (fun _ _ => rfl)) (nomark _))) (fun _ _ _ _ _ => pv 6)) pa_nil)))
        (pg_tup rfl (pgs_cons (pg_name (i := 2) scSetOf.nd rfl (.inl rfl)) (pgs_cons (pg_name (i := 3) scSetOf.nd rfl (.inl rfl)) pgs_nil)))
        (pss_one (ps_if (PW.pt (pw_and (pt_truth (pv 1) (by intro _; rfl)) (pw_and1 (pt_cmpR op_le (pv 2) (pe_op op_add (pe_ix ix_tup (pe_ix ix_list (pv 1) (pe_un un_neg pe_int) (fun _ _ => rfl)) pe_int (fun _ _ => rfl)) pe_int) (nomark _)))))
          (pss_cons (ps_asg (pe_ix ix_list (pv 1) (pe_un un_neg pe_int) (fun _ _ => rfl)) (pg_tup rfl (pgs_cons (pg_name (i := 4) scSetOf.nd rfl (.inl rfl)) (pgs_cons (pg_name (i := 5) scSetOf.nd rfl (.inl rfl)) pgs_nil))))
          (pss_one (ps_asg (pe_tup (pa_cons (pv 4) (pa_cons (pe_callB (call_max2 rfl) (by rfl) mx (by decide +kernel) (pa_cons (pv 5) (pa_cons (pv 3) pa_nil))) pa_nil))) (pg_sub (pv 1) (pe_un un_neg pe_int) set_list))))
          (pss_one (ps_expr (pe_bm PySem.F.plainAttrs_list PySem.F.slot_list_append PySem.F.type_list_append mt_append (pv 1) (pa_cons (pe_tup (pa_cons (pv 2) (pa_cons (pv 3) pa_nil))) pa_nil)))))))
      (pss_one (ps_ret (pv 1)))), ?_⟩
    -- merged = []
    refine ⟨Nat.zero_le _, fun mg' nm => ?_⟩
    have s1 := same_upd (o := .lst []) nm
    have em1 : upd H mg' (.lst []) mg' = some (.lst []) := upd_same
    revert s1 em1
    generalize upd H mg' (.lst []) = H1
    intro s1 em1
    -- [pair for pair in pairs if ..]
    refine ⟨.ref a, rfl, a, rfl, lc_seq (xs := us) (hq.same s1) (fun D i H' => Same H1 H' ∧ ∃ ys, H' D = some (.lst ys) ∧ Prs H' ys ((ps.take i).filter fun p => decide (p.1 ≤ p.2)) ∧ ys.length ≤ i) (fun D nD => ⟨same_upd nD, [], upd_same, Prs.nil, Nat.le_refl _⟩)
      (fun D i H' nD hP => SqTo.same hP.1) (fun D i x H' nD hx hP => ?_) (fun D H2 nD hP => ?_)⟩
    · obtain ⟨sm, ys, eD, hys, hyl⟩ := hP
      obtain ⟨p, T, ep, rfl, eT⟩ := prs_at hp hx
      have hi : i < us.length := (List.getElem?_eq_some_iff.mp hx).1
      rw [hp.1] at hi
      have eT' := sm _ _ (s1 _ _ eT)
      refine ⟨rfl, _, rfl, T, _, 0, .int p.1, rfl, rfl, .inl (.inl eT'), atI_nat (j := 0) rfl, _, rfl, T, _, 1, .int p.2, rfl, rfl, .inl (.inl eT'), atI_nat (j := 1) rfl, p.1, p.2, rfl, rfl, _, rfl, ?_⟩
      have etake : (ps.take (i + 1)).filter (fun p => decide (p.1 ≤ p.2)) = (ps.take i).filter (fun p => decide (p.1 ≤ p.2)) ++ (if p.1 ≤ p.2 then [p] else []) := by
        rw [List.take_add_one, ep, List.filter_append]
        by_cases c : p.1 ≤ p.2
        · rw [if_pos c]; simp [c]
        · rw [if_neg c]; simp [c]
      refine ite2 (fun c => ?_) (fun c => ?_)
      · have c' := of_decide_eq_true c
        refine ⟨_, rfl, ys, eD, small1000 (by omega), fun b o e => ?_, _, upd_same, ?_, by rw [List.length_append]; show ys.length + 1 ≤ i + 1; omega⟩
        · rw [upd_ne (ne_of_none e nD)]
          exact sm b o e
        · rw [etake, if_pos c']
          exact (hys.snoc eT').upd_lst eD
      · have c' : ¬ p.1 ≤ p.2 := fun z => c (decide_eq_true z)
        refine ⟨sm, ys, eD, ?_, by omega⟩
        rw [etake, if_neg c', List.append_nil]
        exact hys
    · -- sorted
      obtain ⟨sm, ys, eD, hys, hyl⟩ := hP
      rw [hp.1, List.take_length] at hys
      refine ⟨D, ys, pairOf H2, rfl, SqL.of eD, fun x hx => ?_, fun zs g srt stb ng => ?_⟩
      · obtain ⟨i, hi, e⟩ := List.getElem_of_mem hx
        obtain ⟨p, T, _, rfl, eT⟩ := prs_at hys (by rw [List.getElem?_eq_getElem hi, e])
        exact ⟨T, rfl, by rw [pairOf_at eT]; exact eT⟩
      have sg := same_upd (o := .lst zs) ng
      have eg : upd H2 g (.lst zs) g = some (.lst zs) := upd_same
      have s3 : Same H (upd H2 g (.lst zs)) := (s1.trans sm).trans sg
      have em3 := sg _ _ (sm _ _ em1)
      -- the pairs of zs
      have each : ∀ x ∈ zs, ∃ T, x = .ref T ∧ H2 T = some (.tup [.int (pairOf H2 x).1, .int (pairOf H2 x).2]) := fun x hx => by
        obtain ⟨i, hi, e⟩ := List.getElem_of_mem (stb.perm.mem_iff.mp hx)
        obtain ⟨p, T, _, rfl, eT⟩ := prs_at hys (by rw [List.getElem?_eq_getElem hi, e])
        exact ⟨T, rfl, by rw [pairOf_at eT]; exact eT⟩
      have hzs : Prs H2 zs (zs.map (pairOf H2)) := ⟨by rw [List.length_map], fun i p e => by
        rw [List.getElem?_map] at e
        cases h : zs[i]? with
        | none => rw [h] at e; cases e
        | some x =>
          rw [h] at e
          cases e
          obtain ⟨T, rfl, eT⟩ := each x (List.mem_of_getElem? h)
          exact ⟨T, rfl, eT⟩⟩
      have hmap : ys.map (pairOf H2) = ps.filter fun p => decide (p.1 ≤ p.2) := by
        refine List.ext_getElem? fun i => ?_
        rw [List.getElem?_map]
        cases h : ys[i]? with
        | none =>
          have : (ps.filter fun p => decide (p.1 ≤ p.2))[i]? = none := by
            rw [List.getElem?_eq_none_iff] at h ⊢
            rw [← hys.1]
            exact h
          rw [this]
          rfl
        | some x =>
          obtain ⟨p, T, ep, rfl, eT⟩ := prs_at hys h
          rw [ep]
          show some (pairOf H2 (.ref T)) = some p
          rw [pairOf_at eT]
      have hperm : (zs.map (pairOf H2)).Perm (ps.filter fun p => decide (p.1 ≤ p.2)) := hmap ▸ stb.perm.map (pairOf H2)
      have hle : ∀ p ∈ zs.map (pairOf H2), p.1 ≤ p.2 := fun p hp' => by
        have := hperm.mem_iff.mp hp'
        exact of_decide_eq_true (List.mem_filter.mp this).2
      have hord : (zs.map (pairOf H2)).Pairwise fun x y => x.1 ≤ y.1 := by
        rw [List.pairwise_map]
        refine srt.imp fun {x y} h => ?_
        have := SrtO.lexB_no.mp h
        omega
      have hzl : zs.length ≤ 900 := by
        rw [stb.perm.length_eq, hys.1]
        exact Nat.le_trans (List.length_filter_le _ _) hz
      revert hzs hperm hle hord
      generalize zs.map (pairOf H2) = qs
      intro hzs hperm hle hord
      have hzs3 := hzs.same sg
      revert eg s3 em3 hzs3
      generalize upd H2 g (.lst zs) = H3
      intro eg s3 em3 hzs3
      have ngH : H g = none := (s1.trans sm).free ng
      have nmg : mg' ≠ g := ne_of_none (sm _ _ em1) ng
      -- the merging
      refine ⟨g, rfl, ⟨_, SqL.of eg⟩, for_list (xs := zs) (fun i σ H4 => ∃ (ms : List V) (rs : List (Int × Int)) (y2 y3 y4 y5 y6 : Option V), σ = [some (.ref a), some (.ref mg'), y2, y3, y4, y5, y6] ∧ Same H H4 ∧ H4 g = some (.lst zs) ∧ Prs H4 zs qs ∧ H4 mg' = some (.lst ms) ∧ Prs H4 ms rs ∧ Mrg (qs.take i) rs)
        ⟨[], [], _, _, _, _, _, rfl, s3, eg, hzs3, em3, Prs.nil, Mrg.nil⟩ (fun i σ H4 _ hP => ?_) (fun i x σ H4 hx hP => ?_) (fun σ H4 hP => ?_)⟩
      · obtain ⟨_, _, _, _, _, _, _, rfl, _, e, _⟩ := hP
        exact SqL.of e
      · obtain ⟨ms, rs, y2, y3, y4, y5, y6, rfl, sm4, eg4, hz4, em4, hms, m⟩ := hP
        obtain ⟨p, T, ep, rfl, eT⟩ := prs_at hz4 hx
        have hi : i < qs.length := (List.getElem?_eq_some_iff.mp ep).1
        have hp12 : p.1 ≤ p.2 := hle p (List.mem_of_getElem? ep)
        have ord : ∀ q ∈ qs.take i, q.1 ≤ p.1 := fun q hq' => by
          obtain ⟨j, hj, e⟩ := List.getElem_of_mem hq'
          rw [List.length_take] at hj
          rw [List.getElem_take] at e
          obtain ⟨_, e2⟩ := List.getElem?_eq_some_iff.mp ep
          rw [← e, ← e2]
          exact List.pairwise_iff_getElem.mp hord j i (by omega) hi (by omega)
        have etake : qs.take (i + 1) = qs.take i ++ [p] := by rw [List.take_add_one, ep]; rfl
        have hmsl : ms.length ≤ 900 := by
          have := m.len
          rw [List.length_take] at this
          have := hzs.1
          rw [hms.1]
          omega
        refine ⟨T, _, rfl, .inl (.inl eT), rfl, _, _, rfl, _, _, rfl, rfl, ?_⟩
        -- what a new tuple and a change of merged leave
        have grow : ∀ (T2 : Addr) (p2 : Int × Int) (ms2 : List V) (rs2 : List (Int × Int)), H4 T2 = none → Prs (upd H4 T2 (.tup [.int p2.1, .int p2.2])) ms2 rs2 →
            Same H (upd (upd H4 T2 (.tup [.int p2.1, .int p2.2])) mg' (.lst ms2)) ∧ upd (upd H4 T2 (.tup [.int p2.1, .int p2.2])) mg' (.lst ms2) g = some (.lst zs) ∧ Prs (upd (upd H4 T2 (.tup [.int p2.1, .int p2.2])) mg' (.lst ms2)) zs qs ∧ upd (upd H4 T2 (.tup [.int p2.1, .int p2.2])) mg' (.lst ms2) mg' = some (.lst ms2) ∧ Prs (upd (upd H4 T2 (.tup [.int p2.1, .int p2.2])) mg' (.lst ms2)) ms2 rs2 := by
          intro T2 p2 ms2 rs2 n2 h2
          have st := same_upd (o := .tup [.int p2.1, .int p2.2]) n2
          have em5 := st _ _ em4
          refine ⟨fun b o e => ?_, ?_, (hz4.same st).upd_lst em5, upd_same, h2.upd_lst em5⟩
          · rw [upd_ne (ne_of_none e nm)]
            exact st _ _ (sm4 _ _ e)
          · rw [upd_ne nmg.symm]
            exact st _ _ eg4
        -- append
        have app : (∀ r ∈ rs, r.2 + 2 ≤ p.1) → (tDrop (tBM K "list" rAppend (tVar 1) (tCons (tTup (tCons (tVar 2) (tCons (tVar 3) tNil))) tNil))) { nx := fun σ H4 => ∃ (ms : List V) (rs : List (Int × Int)) (y2 y3 y4 y5 y6 : Option V), σ = [some (.ref a), some (.ref mg'), y2, y3, y4, y5, y6] ∧ Same H H4 ∧ H4 g = some (.lst zs) ∧ Prs H4 zs qs ∧ H4 mg' = some (.lst ms) ∧ Prs H4 ms rs ∧ Mrg (qs.take (i + 1)) rs, rt := fun _ _ => False } [some (.ref a), some (.ref mg'), some (.int p.1), some (.int p.2), y4, y5, y6] H4 := by
          intro far
          refine ⟨.ref mg', rfl, .inl ⟨rfl, _, SqL.of em4⟩, _, rfl, _, rfl, (by show 2 ≤ sizeLine; decide), fun T2 n2 => ?_⟩
          have st := same_upd (o := .tup [.int p.1, .int p.2]) n2
          refine ⟨mg', _, _, rfl, rfl, st _ _ em4, small1000 (by omega), ?_⟩
          obtain ⟨g1, g2, g3, g4, g5⟩ := grow T2 p (ms ++ [.ref T2]) (rs ++ [p]) n2 ((hms.same st).snoc upd_same)
          exact ⟨_, _, _, _, _, _, _, rfl, g1, g2, g3, g4, g5, by rw [etake]; exact m.new hp12 ord far⟩
        rcases snoc_cases rs with e0 | ⟨rs', ⟨lo, hi'⟩, e0⟩
        · have e1 : ms = [] := List.eq_nil_of_length_eq_zero (by rw [hms.1, e0]; rfl)
          have em0 : H4 mg' = some (.lst []) := by rw [em4, e1]
          refine ⟨.ref mg', rfl, false, .inl ⟨[], SqL.of em0, rfl⟩, iteF (iteF ?_)⟩
          exact app (by rw [e0]; exact fun _ z => nomatch z)
        · subst e0
          obtain ⟨ms', T0, rfl, eT0, hms'⟩ := hms.last
          refine ⟨.ref mg', rfl, true, .inl ⟨_, SqL.of em4, by simp⟩, iteT ?_⟩
          refine ⟨_, rfl, .ref mg', rfl, 1, rfl, mg', _, -1, .ref T0, rfl, rfl, SqL.of em4, atI_last _ _, T0, _, 1, .int hi', rfl, rfl, .inl (.inl eT0), atI_nat (j := 1) rfl, hi', 1, rfl, rfl, p.1, _, rfl, rfl, _, rfl, ite2 (fun c => ?_) (fun c => ?_)⟩
          · have c' := of_decide_eq_true c
            refine ⟨.ref mg', rfl, 1, rfl, mg', _, -1, .ref T0, rfl, rfl, SqL.of em4, atI_last _ _, T0, _, rfl, .inl (.inl eT0), rfl, _, _, rfl, _, _, rfl, rfl, ?_⟩
            refine ⟨_, rfl, _, rfl, _, rfl, hi', p.2, rfl, (by show 2 ≤ sizeLine; decide), fun T2 n2 => ?_⟩
            have st := same_upd (o := .tup [.int lo, .int (if p.2 > hi' then p.2 else hi')]) n2
            have ei : ixN (ms' ++ [V.ref T0]).length (-1) = some ms'.length := by
              unfold ixN
              rw [if_neg (by decide), List.length_append, if_pos (by show -((ms'.length + 1 : Nat) : Int) ≤ -1; omega)]
              show some ((-1 : Int) + ((ms'.length + 1 : Nat) : Int)).toNat = _
              congr 1
              omega
            refine ⟨.ref mg', rfl, 1, rfl, mg', _, -1, ms'.length, rfl, rfl, st _ _ em4, ei, ?_⟩
            have es : (ms' ++ [V.ref T0]).set ms'.length (.ref T2) = ms' ++ [.ref T2] := by simp
            rw [es]
            obtain ⟨g1, g2, g3, g4, g5⟩ := grow T2 (lo, if p.2 > hi' then p.2 else hi') (ms' ++ [.ref T2]) (rs' ++ [(lo, if p.2 > hi' then p.2 else hi')]) n2 ((hms'.same st).snoc upd_same)
            exact ⟨_, _, _, _, _, _, _, rfl, g1, g2, g3, g4, g5, by rw [etake]; exact m.join hp12 ord c'⟩
          · have c' : ¬ p.1 ≤ hi' + 1 := fun z => c (decide_eq_true z)
            refine app fun r hr' => ?_
            obtain ⟨lo', hR⟩ := m.ris
            obtain ⟨_, h2, _, h4⟩ := Ris.front hR
            have h4' : lo ≤ hi' := h4
            rcases List.mem_append.mp hr' with y | y
            · have : r.2 + 2 ≤ lo := h2 r y
              omega
            · rw [List.mem_singleton.mp y]
              show hi' + 2 ≤ p.1
              omega
      · obtain ⟨ms, rs, y2, y3, y4, y5, y6, rfl, sm4, eg4, hz4, em4, hms, m⟩ := hP
        rw [hzs.1, List.take_length] at m
        refine ⟨_, rfl, q mg' ms rs H4 nm em4 hms ⟨m.ris, m.same.trans fun n => ?_, Nat.le_trans m.len (Nat.le_trans (Nat.le_of_eq hperm.length_eq) (List.length_filter_le _ _))⟩ sm4⟩
        constructor
        · rintro ⟨r, hr', e⟩
          exact ⟨r, (List.mem_filter.mp (hperm.mem_iff.mp hr')).1, e⟩
        · rintro ⟨r, hr', e⟩
          exact ⟨r, hperm.mem_iff.mpr (List.mem_filter.mpr ⟨hr', decide_eq_true (by omega)⟩), e⟩
end

def RetS (H : Hp) (pr : Int → Prop) (m : Nat) (Q : V → Hp → Prop) : Prop := ∀ (l : Addr) (ws : List V) (rs : List (Int × Int)) H', H l = none → H' l = some (.lst ws) → Prs H' ws rs → Told pr rs → rs.length ≤ m → Same H H' → Q (.ref l) H'

/-! ### things as data, all of it tracked -/
inductive Dat (H : Hp) : V → PyData → Prop
  | non : Dat H .non .none
  | bl (b : Bool) : Dat H (.bl b) (.bool b)
  | int (i : Int) : Dat H (.int i) (.int i)
  | str (x : Str) : Dat H (.str x) (.str x)
  | lst {a : Addr} {xs : List V} {ds : List PyData} : H a = some (.lst xs) → xs.length = ds.length → (∀ (i : Nat) x d, xs[i]? = some x → ds[i]? = some d → Dat H x d) → Dat H (.ref a) (.list ds)
  | tup {a : Addr} {xs : List V} {ds : List PyData} : H a = some (.tup xs) → xs.length = ds.length → (∀ (i : Nat) x d, xs[i]? = some x → ds[i]? = some d → Dat H x d) → Dat H (.ref a) (.tuple ds)
theorem Dat.same {H H' : Hp} {v : V} {d : PyData} (h : Dat H v d) (s : Same H H') : Dat H' v d := by
  induction h with
  | non => exact .non
  | bl b => exact .bl b
  | int i => exact .int i
  | str x => exact .str x
  | lst e l _ ih => exact .lst (s _ _ e) l ih
  | tup e l _ ih => exact .tup (s _ _ e) l ih
/-- at most so deep, no longer than these lines -/
def Sm : Nat → PyData → Prop
  | _, .none => True
  | _, .bool _ => True
  | _, .int _ => True
  | _, .str _ => True
  | n + 1, .list ds => ds.length ≤ 900 ∧ ∀ d ∈ ds, Sm n d
  | n + 1, .tuple ds => ds.length ≤ 900 ∧ ∀ d ∈ ds, Sm n d
  | _, _ => False
/-- no list, no tuple -/
def Flat (d : PyData) : Prop := d = .none ∨ (∃ b, d = .bool b) ∨ (∃ i, d = .int i) ∨ ∃ x, d = .str x
theorem Sm.cases {n : Nat} {d : PyData} (h : Sm (n + 1) d) : Flat d ∨ (∃ ds, d = .list ds ∧ ds.length ≤ 900 ∧ ∀ d ∈ ds, Sm n d) ∨ ∃ ds, d = .tuple ds ∧ ds.length ≤ 900 ∧ ∀ d ∈ ds, Sm n d := by
  cases d <;> first | exact .inl (.inl rfl) | exact .inl (.inr (.inl ⟨_, rfl⟩)) | exact .inl (.inr (.inr (.inl ⟨_, rfl⟩))) | exact .inl (.inr (.inr (.inr ⟨_, rfl⟩))) | exact .inr (.inl ⟨_, rfl, h.1, h.2⟩) | exact .inr (.inr ⟨_, rfl, h.1, h.2⟩) | exact h.elim
theorem Sm.flat {d : PyData} (h : Sm 0 d) : Flat d := by
  cases d <;> first | exact .inl rfl | exact .inr (.inl ⟨_, rfl⟩) | exact .inr (.inr (.inl ⟨_, rfl⟩)) | exact .inr (.inr (.inr ⟨_, rfl⟩)) | exact h.elim
theorem walk_zipTs {K : PySem.W.Frag} {a b : Addr} {xs ys : List V} {n : Nat} (h1 : xs.length = n) (h2 : ys.length = n) : Walk (RZ.ItzT K a b) n (fun H => SqT K H a xs ∧ SqT K H b ys) (YPair (fun i => xs[i]?) (fun i => ys[i]?)) where
  goes := fun i _ lt q => ⟨xs, ys, _, _, q.1, q.2, List.getElem?_eq_getElem (h1.symm ▸ lt), List.getElem?_eq_getElem (h2.symm ▸ lt)⟩
  stops := fun _ q => ⟨xs, ys, q.1, q.2, .inl (Nat.le_of_eq h1)⟩
  yields := fun i _ _ _ _ q ⟨T, x, z, e1, e2, e3, e4, e5⟩ => ⟨T, x, z, e1, e2, e3, e4 xs q.1, e5 ys q.2⟩
theorem prs_dat {H : Hp} {us : List V} {ps : List (Int × Int)} (h : Prs H us ps) : ∀ (i : Nat) x d, us[i]? = some x → (ps.map pairD)[i]? = some d → Dat H x d := fun i x d e1 e2 => by
  obtain ⟨p, a, ep, rfl, ea⟩ := prs_at h e1
  rw [List.getElem?_map, ep] at e2
  have ed : pairD p = d := Option.some.inj e2
  rw [← ed]
  refine .tup ea rfl fun j y d f1 f2 => ?_
  have hj : j < 2 := (List.getElem?_eq_some_iff.mp f1).1
  have : j = 0 ∨ j = 1 := by omega
  rcases this with rfl | rfl
  · cases f1; cases f2; exact .int _
  · cases f1; cases f2; exact .int _
theorem sm_prs {ps : List (Int × Int)} (h : ps.length ≤ 900) : Sm 2 (.list (ps.map pairD)) := by
  refine ⟨by rw [List.length_map]; exact h, fun d hd => ?_⟩
  obtain ⟨p, _, rfl⟩ := List.mem_map.mp hd
  exact ⟨by show 2 ≤ 900; decide, fun d hd => by
    rcases List.mem_cons.mp hd with e | e
    · rw [e]; trivial
    · rw [List.mem_singleton.mp e]; trivial⟩
theorem ints_dat {H : Hp} {a : Addr} {ns : List Int} (e : H a = some (.lst (ns.map V.int))) : Dat H (.ref a) (.list (ns.map PyData.int)) := .lst e (by rw [List.length_map, List.length_map]) fun i x d e1 e2 => by
  rw [List.getElem?_map] at e1 e2
  cases h : ns[i]? with
  | none => rw [h] at e1; cases e1
  | some n =>
    rw [h] at e1 e2
    cases e1
    cases e2
    exact .int n
theorem sm_ints {ns : List Int} (h : ns.length ≤ 900) : Sm 1 (.list (ns.map PyData.int)) := by
  refine ⟨by rw [List.length_map]; exact h, fun d hd => ?_⟩
  obtain ⟨p, _, rfl⟩ := List.mem_map.mp hd
  trivial

def SqH (H : Hp) (a : Addr) (xs : List V) : Prop := H a = some (.lst xs) ∨ H a = some (.tup xs)

/-! ### defs that are called while nothing is being shown: str of lists within lists -/
/-- a def keeps its promise where nothing is being shown -/
structure FnG (P : Program) (w : World) (K : PySem.W.Frag) (mg : Str → Option Value) (base : Heap) (CX : CXT) (k : Nat) (f : Addr) (fd : FuncData) (ps : List Str) (sp : Sp) : Prop where
  len : ∀ (vs : List V) (H : Hp) (Q : VK) (E : XK), sp vs H Q E → vs.length = ps.length
  run : ∀ (A : Around) (outer : List Env) (s : Shared) (H : Hp) (args : Args) (us : List Value) (vs : List V) (Q : VK) (E : XK), A.guards = some [] → Room k A → Env0 P w K mg base A outer s H → BindsTo s fd args (ps.zip us) → Vals vs us → sp vs H Q E → codeAny (model P w) A (Code.call (Value.ref f) args) (CR CX outer P w H s Q E) s
section
variable {CX : CXT} {P : Program} {w : World} {K : PySem.W.Frag} {mg : Str → Option Value} {base : Heap} {k : Nat}
theorem FnG.of {f : Addr} {fd : FuncData} {ps : List Str} {sp : Sp} (F : FnOk P w K mg base CX k f fd ps sp) : FnG P w K mg base CX k f fd ps sp :=
  ⟨F.len, fun A outer s H args us vs Q E _ hr e0 hb r hsp => F.run A outer s H args us vs Q E hr e0 hb r hsp⟩
theorem fn_ofG {f : Addr} {name qual : Str} {params : Arguments} {body : List Stmt} {scope : Scope} {dV kV doc pm cdv ct oc : Value} {an od : Option Addr} {osl : Array (Option Value)} {N ps : List Str} {sp : Sp}
    (lk : List.lookup f K = some { cls := oc, dict := od, data := Data.func (PySem.W.fnOf name qual params body scope dV kV doc pm an cdv ct), slots := osl }) (hcd : PySem.W.codeIn K cdv qual = true) (S : FnScope N ps scope)
    (len : ∀ (vs : List V) (H : Hp) (Q : VK) (E : XK), sp vs H Q E → vs.length = ps.length)
    (hbody : ∀ (A : Around) (outer : List Env) (s : Shared) (H : Hp) (vs : List V) (Q : VK) (E : XK), A.guards = some [] → Room k (A.deeper (PyProof.Rows.envOfC qual scope s.heap.objs.size f cdv)) → sp vs H Q E →
      ∃ t, PSs (cxOf CX P w K mg base N qual scope f cdv A outer s H E) body t ∧ t { nx := fun _ H' => Q V.non H', rt := Q } (L2.start N vs) H) :
    FnG P w K mg base CX (k + 1) f (PySem.W.fnOf name qual params body scope dV kV doc pm an cdv ct) ps sp := by
  refine ⟨len, fun A outer s H args us vs Q E hgd hr e0 hb r hsp => ?_⟩
  have hl := len vs H Q E hsp
  have KX := PySem.W.Frag.In.keeps e0.mod.kin fun b o e => (e0.bs b o e).1
  have lim := Heap.NoLimit.keeps e0.mod.nolimit fun b o e => (e0.bs b o e).1
  refine codeAny_call_function (Room.depth hr) (KX f _ lk) rfl S.co S.gen rfl (PySem.W.codeRec_of KX hcd) (hb (model P w) A.in1 _ _ (wpAny_newFunctionEnv_cells S.kind (fun x hy => ?_) fun env he s1 x => ?_))
  · obtain ⟨n, v⟩ := x
    rcases S.par n (List.of_mem_zip hy).1 with q | q
    · exact .inl q
    · exact .inr ⟨q, PySem.W.cellsFrom_some scope.names _ [] (.inl q)⟩
  · subst he
    refine ⟨Heap.NoLimit.keeps lim x.toInCall.keep, codeAny_func ?_⟩
    obtain ⟨t, ht, hq⟩ := hbody A outer s H vs Q E hgd (Room.deeper hr _) hsp
    have I := inv_start (CX := CX) (E := E) S hr.hd e0 hl r x
    refine wpAny_mono (ht.run [] s1 (L2.start N vs) H _ I hq) (fun fl s' hs => ?_) (fun e s' hs => hs)
    cases fl with
    | ret u =>
      obtain ⟨v, σ', H', J, rv, q⟩ := hs
      exact ⟨v, H', J.os, J.bare, J.base, J.hok, rv, q⟩
    | next =>
      obtain ⟨σ', H', J, q⟩ := hs
      exact ⟨V.non, H', J.os, J.bare, J.base, J.hok, rfl, q⟩
    | _ =>
      obtain ⟨_, _, _, q⟩ := hs
      exact q.elim
theorem Fun_okG {x qual : Str} {st : Stmt} {f : Addr} {fd : FuncData} {N ps : List Str} {sp : Sp} (F : Fun K x qual st f fd) (S : FnScope N ps (defScope st))
    (len : ∀ (vs : List V) (H : Hp) (Q : VK) (E : XK), sp vs H Q E → vs.length = ps.length)
    (hbody : ∀ (cdv : Value) (A : Around) (outer : List Env) (s : Shared) (H : Hp) (vs : List V) (Q : VK) (E : XK), A.guards = some [] → Room k (A.deeper (PyProof.Rows.envOfC qual (defScope st) s.heap.objs.size f cdv)) → sp vs H Q E →
      ∃ t, PSs (cxOf CX0 P w K mg base N qual (defScope st) f cdv A outer s H E).nox (defBody st) t ∧ t { nx := fun _ H' => Q V.non H', rt := Q } (L2.start N vs) H) :
    FnG P w K mg base CX0 (k + 1) f fd ps sp := by
  obtain ⟨oc, od, kV, doc, pm, an, cdv, ct, osl, rfl, lk, hcd⟩ := F.ex
  refine fn_ofG lk hcd S len fun A outer s H vs Q E hg hr hsp => ?_
  obtain ⟨t, h, q⟩ := hbody cdv A outer s H vs Q E hg hr hsp
  exact ⟨t, PSs.nox h, q⟩
end
theorem run_fnG {X : Cx} {CX : CXT} {k : Nat} {f : Addr} {fd : FuncData} {ps : List Str} {sp : Sp} {dvs : List V} {ds : List Value} {E : XK} {pins : List (Addr × Obj)} {σ : L2.St} {H : Hp} {s : Shared} {Q : VK} {us : List Value} {vs : List V}
    (F : FnG X.prog X.w X.K X.mg X.base CX k f fd ps sp) (hgd : X.A.guards = some []) (hr : Room k X.A) (hb : Binds X.K fd ps ds) (hd : Vals dvs ds) (hx : Passes CX X E) (I : L2.Inv X pins σ H s) (r : Vals vs us) (h : sp (vs ++ dvs) H Q E) :
    wpAny (model X.prog X.w) X.A (call (Value.ref f) us) (EP X pins σ Q) X.xe s := by
  have r2 := Vals.append r hd
  have hl : (us ++ ds).length = ps.length := by rw [← Vals.length r2]; exact F.len _ _ _ _ h
  refine wpAny_call (codeAny_mono (F.run X.A X.stack s H _ _ _ Q E hgd hr (Inv.env0 I) (hb s us (Inv.kIn I) hl) r2 h) fun r s' hq => ?_)
  cases r with
  | error e => exact hx pins σ H s e s' I hq
  | ok fl =>
    cases fl with
    | ret u => exact Inv.after I hq
    | _ => exact hq.elim
/-- a def of the text that keeps a promise where nothing is being shown, as its callers see it -/
def CalG (P : Program) (w : World) (K : PySem.W.Frag) (mg : Str → Option Value) (base : Heap) (k : Nat) (x : Str) (ps : List Str) (sp : Sp) : Prop :=
  ∃ f fd, FnG P w K mg base CX0 k f fd ps sp ∧ mg x = some (.ref f) ∧ PySem.W.keepIn K (.ref f) = true ∧ Binds K fd ps []
theorem pe_ownG {X : Cx} {k : Nat} {x : Str} {ps : List Str} {sp : Sp} {e : Expr} {es : List Expr} {t : TA} {p pos : Pos} (C : CalG X.prog X.w X.K X.mg X.base k x ps sp) (hgd : X.A.guards = some []) (hr : Room k X.A) (hg : Gl X x) (ha : PA X (e :: es) t)
    (dbg : (x == ("__debug__" : Str)) = false := by decide) (one : starEach (e :: es) X.env = (false, eval e X.env) :: starEach es X.env := by rfl) (star : (backTo pos (starEach es X.env)).any (·.1) = false := by rfl) :
    PE X (.Call (.Name x p) (e :: es) [] pos) (tCall sp [] E0 t) := by
  obtain ⟨f, fd, F, hm, hk, hb⟩ := C
  refine ⟨fun pins s σ H Q I h => wpAny_Call_Name_kw (ld_glob I hg hm (PySem.W.callWith_K I.ok.mod.kin hk (thn (ha.run pos pins s σ H _ I h) fun us s1 z => ?_) one star) dbg)⟩
  obtain ⟨vs, H1, I1, r, q⟩ := z
  exact ⟨Inv.kIn I1, run_fnG F hgd hr hb .nil pass0 I1 r q⟩
/-- str of data -/
def rStrD (K : PySem.W.Frag) : List V → Hp → VK → Prop := fun xs H Q => ∃ (a : Addr) (d : PyData), xs = [.ref a] ∧ Dp K H (.ref a) d ∧ d.showable = true ∧ d.hasDict = false ∧ d.depth ≤ 8 ∧ d.shown.length ≤ sizeLine ∧ Q (.str d.shown) H
theorem cr_strD {X : Cx} (hg : X.A.guards = some []) (hu : X.A.units + 11 < cLine) : CallR X (.type "str") (rStrD X.K) := fun pins s σ H xs us Q I hv h => by
  obtain ⟨a, d, rfl, hd, h1, h2, h3, h4, q⟩ := h
  cases hv with
  | cons ru hn =>
    cases hn
    cases ru
    obtain ⟨as, hR⟩ := Dp.reads I d (.ref a) (.ref a) hd rfl
    exact str_of_reads hR h1 (fun z => by rw [h2] at z; cases z) hg (by omega) (fun b o e => e) (fun h' u tk keep => ⟨.str d.shown, H, I.kept keep, ⟨u, rfl⟩, q⟩) h4
/-! ### the end -/
theorem law_callG {P : Program} {w : World} {K : PySem.W.Frag} {mg mb : Str → Option Value} {CX : CXT} {k : Nat} {fa a : Addr} {fd : FuncData} {x : Str} {sp : Sp} {s₁ : Shared} {vs : List Value} {ns : List Int}
    (KX : K.In s₁.heap) (hns : s₁.heap.Ns mainGlobals mg) (hb : s₁.heap.Ns builtinsNs mb) (hbb : ∀ (x : Str), x ≠ Str.ofString "__name__" → mb x = bootBuiltins x) (hlim : s₁.heap.NoLimit) (hg : s₁.gens = #[])
    (ha : s₁.heap.get? a = some { cls := Value.type "list", data := Data.seq vs.toArray }) (hi : PyProof.Rows.IntsAre vs ns) (hl : ns.length ≤ sizeLine) (hr : Room k callerA)
    (F : ∀ (base : Heap), K.In base → base.Ns mainGlobals mg → FnG P w K mg base CX k fa fd [x] sp) (hbind : ∀ (s : Shared) (u : Value), BindsTo s fd { pos := [u] } [(x, u)])
    (hsp : ∀ (H : Hp), Only H → SqL K H a (List.map V.int ns) → sp [V.ref a] H (fun v _ => v = V.bl true) fun _ _ _ => False) (hCX : ∀ (H : Hp) (e : Value) (s' : Shared), CX [] H s₁ (fun _ _ _ => False) e s' → False) :
    codeAny (model P w) callerA (Code.call (Value.ref fa) { pos := [Value.ref a] }) (fun r s' => r = Except.ok (Flow.ret (Value.bool true)) ∧ OldK s₁.heap s'.heap ∧ s'.os = s₁.os ∧ PyProof.Rows.AllBare s'.gens) s₁ := by
  have rv := vals_ints hi
  have lenV := PyProof.Rows.IntsAre.length hi
  have core : ∀ H : Hp, Only H → SqL K H a (List.map V.int ns) → HOk P w H s₁.heap → (∀ b, H b ≠ none → b = a) → (H a ≠ none → List.lookup a K = none) →
      codeAny (model P w) callerA (Code.call (Value.ref fa) { pos := [Value.ref a] }) (fun r s' => r = Except.ok (Flow.ret (Value.bool true)) ∧ OldK s₁.heap s'.heap ∧ s'.os = s₁.os ∧ PyProof.Rows.AllBare s'.gens) s₁ := by
    intro H hO hS hok hA hK
    have isA : ∀ {b : Addr} {u : HO}, H b = some u → b = a := fun {b u} hh => hA b (by rw [hh]; exact fun z => nomatch z)
    have noA : ∀ {b : Addr} {o : Obj} {es ep}, s₁.heap.get? b = some o → o.data = Data.dict es ep → H b = none := by
      intro b o es ep e d
      cases hh : H b with
      | none => rfl
      | some u =>
        rw [isA hh, ha] at e
        rw [← Option.some.inj e] at d
        cases d
    have nsK : ∀ {b : Addr} {m : Str → Option Value}, s₁.heap.Ns b m → (hidT s₁.heap H).Ns b m := fun {b m} z => by
      obtain ⟨o, es, ep, e, d, r⟩ := z
      exact ⟨o, es, ep, hidT_get e (noA e d), d, r⟩
    have hKb : K.In (hidT s₁.heap H) := fun b o e => hidT_get (KX b o e) (by
      cases hh : H b with
      | none => rfl
      | some u =>
        rw [isA hh, hK (by rw [isA hh] at hh; rw [hh]; exact fun z => nomatch z)] at e
        cases e)
    have hM : L2.Mod K mg (hidT s₁.heap H) := ⟨hKb, nsK hns, ⟨mb, nsK hb, hbb⟩, let ⟨mc, h1, h2⟩ := hlim; ⟨mc, nsK h1, h2⟩⟩
    have e0 : Env0 P w K mg (hidT s₁.heap H) callerA [] s₁ H := ⟨rfl, hM, fun b o e => of_hidT e, Nat.le_of_eq (hidT_size ..), trivial, fun b hb => (nomatch hb), hok, .of_eq hg⟩
    refine codeAny_mono ((F _ hKb (nsK hns)).run callerA [] s₁ H ⟨[.ref a], []⟩ [.ref a] [.ref a] (fun v _ => v = .bl true) (fun _ _ _ => False) rfl hr e0 (hbind s₁ (.ref a)) (.cons rfl .nil) (hsp H hO hS)) fun r s' h => ?_
    cases r with
    | error e => exact (hCX H e s' h).elim
    | ok fl =>
      cases fl with
      | ret u =>
        obtain ⟨v, H', os, bare, un, hok', r', q⟩ := h
        subst q
        cases r'
        refine ⟨rfl, OldK.of_keep fun b o e => ?_, os, bare⟩
        cases hh : H b with
        | none => exact un.keep b o e hh (fun z => nomatch z) (fun z => nomatch z)
        | some u =>
          rcases hO b with z | ⟨ob, xs, z⟩
          · rw [z] at hh; cases hh
          · have z2 := un.frzs b ob (HO.lst xs) z
            have e1 := (hok b _ z).1
            have e2 := (hok' b _ z2).1
            rw [e] at e1
            rw [Option.some.inj e1]
            exact e2
      | _ => exact h.elim
  cases hk : List.lookup a K with
  | none =>
    have at_a : (fun b => if b = a then some (HO.frz { cls := Value.type "list", data := Data.seq vs.toArray } (HO.lst (List.map V.int ns))) else none : Hp) a = some (HO.frz { cls := Value.type "list", data := Data.seq vs.toArray } (HO.lst (List.map V.int ns))) := if_pos rfl
    refine core (fun b => if b = a then some (HO.frz { cls := Value.type "list", data := Data.seq vs.toArray } (HO.lst (List.map V.int ns))) else none) (fun b => ?_) (.inl (.inr ⟨_, at_a⟩)) (fun b u z => ?_) (fun b z => ?_) (fun _ => hk)
    · by_cases hb : b = a
      · exact .inr ⟨_, _, if_pos hb⟩
      · exact .inl (if_neg hb)
    · by_cases hb : b = a
      · have z' := Eq.trans (Eq.symm (if_pos hb)) z
        cases z'
        subst hb
        exact ⟨ha, by rw [List.length_map]; exact hl, vs, 0, rv, ha⟩
      · have z' := Eq.trans (Eq.symm (if_neg hb)) z
        cases z'
    · by_cases hb : b = a
      · exact hb
      · exact absurd (if_neg hb) z
  | some o =>
    have e := KX a o hk
    rw [ha] at e
    cases e
    exact core (fun _ => none) (fun _ => .inl rfl) (.inr ⟨_, vs.toArray, 0, hk, rfl, rfl, rfl, by rw [List.size_toArray, lenV]; exact hl, rv⟩) (fun b u z => nomatch z) (fun b z => absurd rfl z) (fun z => absurd rfl z)
def LawAtG (l : PySem.W.OpenLaw) (w : World) (K : PySem.W.Frag) (k : Nat) (mg : Str → Option Value) (fa : Addr) : Prop :=
  ∃ (fd : FuncData) (sp : Sp), (∀ (s : Shared) (u : Value), BindsTo s fd { pos := [u] } [("_law_script", u)]) ∧ (∀ (H : Hp) (a : Addr) (ns : List Int), ns.length ≤ 63 → SqL K H a (List.map V.int ns) → sp [V.ref a] H (fun v _ => v = V.bl true) fun _ _ _ => False) ∧
    ∀ (base : Heap), K.In base → base.Ns mainGlobals mg → FnG l.prog w K mg base CX0 k fa fd ["_law_script"] sp
theorem law_endG {l : PySem.W.OpenLaw} {k : Nat} {q : Program} {loose : List Str} {XP : (Str → Option Value) → Heap → Prop} {YP : World → Heap → Prop} {d : DefRec} {K : Params → PySem.W.Frag} (most : l.most = some 63) (plain : d.params.defaults = []) (room : Room k callerA)
    (part : ∀ w h, YP w h → (K w.params).In h) (made : ∀ (w : World) (mg : Str → Option Value) (f : Addr) (h : Heap), (K w.params).In h → h.Ns mainGlobals mg → mg d.name = some (.ref f) → LawAtG l w (K w.params) k mg f) : PySem.W.WalkO q loose XP YP l.row.toRowW d [] (fun f vs => PySem.call f vs) := by
  refine Att.attach_callB most plain ?_
  intro w _ s₁ mg _ f _ _ _ _ a vs ns ground said _ _ _ name script nums len size still
  have X := part w _ said
  obtain ⟨fd, sp, e4, e5, e6⟩ := made w mg f _ X ground.T.g name
  exact law_callG X ground.T.g ground.T.b ground.T.builtins ground.T.nolimit still script nums (Nat.le_trans len (by decide)) room e6 e4 (fun H z1 z2 => e5 H a ns len z2) fun _ _ _ z => z

/-- an expression, then a word of what it gives: what follows is shown once -/
def tMid (te : TE) : TE := fun σ H Q => ∃ M : V → Hp → Prop, te σ H M ∧ ∀ v H', M v H' → Q v H'
theorem pe_mid {X : Cx} {e : Expr} {te : TE} (h : PE X e te) : PE X e (tMid te) := ⟨fun pins s σ H Q I ⟨M, h1, h2⟩ => thn (h.run pins s σ H M I h1) fun _ _ ⟨y, H1, I1, r, q⟩ => ⟨y, H1, I1, r, h2 _ _ q⟩⟩

/-! ### things as data; of the lists among them this holds -/
inductive DatN (N : Addr → Prop) (H : Hp) : V → PyData → Prop
  | non : DatN N H .non .none
  | bl (b : Bool) : DatN N H (.bl b) (.bool b)
  | int (i : Int) : DatN N H (.int i) (.int i)
  | str (x : Str) : DatN N H (.str x) (.str x)
  | lst {a : Addr} {xs : List V} {ds : List PyData} : N a → H a = some (.lst xs) → xs.length = ds.length → (∀ (i : Nat) x d, xs[i]? = some x → ds[i]? = some d → DatN N H x d) → DatN N H (.ref a) (.list ds)
  | tup {a : Addr} {xs : List V} {ds : List PyData} : H a = some (.tup xs) → xs.length = ds.length → (∀ (i : Nat) x d, xs[i]? = some x → ds[i]? = some d → DatN N H x d) → DatN N H (.ref a) (.tuple ds)
/-- tuples stay, and the lists of which this holds -/
structure Kps (N : Addr → Prop) (H H' : Hp) : Prop where
  tup : ∀ a xs, H a = some (.tup xs) → H' a = some (.tup xs)
  lst : ∀ a xs, N a → H a = some (.lst xs) → H' a = some (.lst xs)
theorem Kps.same {N : Addr → Prop} {H H' : Hp} (s : Same H H') : Kps N H H' := ⟨fun a xs e => s a _ e, fun a xs _ e => s a _ e⟩
theorem Kps.kp {N : Addr → Prop} {H H' : Hp} {d c : Addr} {t : Int} (k : Kp d c H H') (S : StAt H d c t) (hN : ∀ a, N a → a ≠ c) : Kps N H H' :=
  ⟨fun a xs e => k.tup S e, fun a xs n e => k a _ (fun z => by rw [z, S.dict] at e; cases e) (hN a n) e⟩
theorem Kps.upd {N : Addr → Prop} {H : Hp} {D : Addr} {ys : List V} {o : HO} (e : H D = some (.lst ys)) (hN : ∀ a, N a → a ≠ D) : Kps N H (upd H D o) :=
  ⟨fun a xs f => by rw [upd_ne (ne_of f e (fun z => nomatch z))]; exact f, fun a xs n f => by rw [upd_ne (hN a n)]; exact f⟩
theorem Kps.upd_dK {N : Addr → Prop} {H : Hp} {D : Addr} {ks : List (Key × V)} {o : HO} (e : H D = some (.dK ks)) : Kps N H (L2.upd H D o) :=
  ⟨fun a xs f => by rw [upd_ne (ne_of f e (fun z => nomatch z))]; exact f, fun a xs n f => by rw [upd_ne (ne_of f e (fun z => nomatch z))]; exact f⟩
theorem Kps.trans {N : Addr → Prop} {H H1 H2 : Hp} (a : Kps N H H1) (b : Kps N H1 H2) : Kps N H H2 := ⟨fun x xs e => b.tup x xs (a.tup x xs e), fun x xs n e => b.lst x xs n (a.lst x xs n e)⟩
theorem DatN.keep {N : Addr → Prop} {H H' : Hp} {v : V} {d : PyData} (h : DatN N H v d) (k : Kps N H H') : DatN N H' v d := by
  induction h with
  | non => exact .non
  | bl b => exact .bl b
  | int i => exact .int i
  | str x => exact .str x
  | lst n e l _ ih => exact .lst n (k.lst _ _ n e) l ih
  | tup e l _ ih => exact .tup (k.tup _ _ e) l ih
theorem DatN.same {N : Addr → Prop} {H H' : Hp} {v : V} {d : PyData} (h : DatN N H v d) (s : Same H H') : DatN N H' v d := h.keep (.same s)
theorem DatN.weak {N N' : Addr → Prop} {H : Hp} {v : V} {d : PyData} (h : DatN N H v d) (w : ∀ a xs, N a → H a = some (.lst xs) → N' a) : DatN N' H v d := by
  induction h with
  | non => exact .non
  | bl b => exact .bl b
  | int i => exact .int i
  | str x => exact .str x
  | lst n e l _ ih => exact .lst (w _ _ n e) e l ih
  | tup e l _ ih => exact .tup e l ih
theorem DatN.dat {N : Addr → Prop} {H : Hp} {v : V} {d : PyData} (h : DatN N H v d) : Dat H v d := by
  induction h with
  | non => exact .non
  | bl b => exact .bl b
  | int i => exact .int i
  | str x => exact .str x
  | lst n e l _ ih => exact .lst e l ih
  | tup e l _ ih => exact .tup e l ih
theorem dpAll_of {K : PySem.W.Frag} {H : Hp} : ∀ {xs : List V} {ds : List PyData}, xs.length = ds.length → (∀ (i : Nat) x d, xs[i]? = some x → ds[i]? = some d → Dp K H x d) → DpAll K H xs ds
  | [], [], _, _ => .nil
  | [], _ :: _, e, _ => nomatch e
  | _ :: _, [], e, _ => nomatch e
  | x :: xs, d :: ds, e, h => .cons (h 0 x d rfl rfl) (dpAll_of (Nat.succ.inj e) fun i y c e1 e2 => h (i + 1) y c e1 e2)
theorem DatN.dp {K : PySem.W.Frag} {N : Addr → Prop} {H : Hp} {v : V} {d : PyData} (h : DatN N H v d) : Dp K H v d := by
  induction h with
  | non => exact .non
  | bl b => exact .bl b
  | int i => exact .int i
  | str x => exact .str x
  | lst n e l _ ih => exact .lst (SqL.of e) (dpAll_of l ih)
  | tup e l _ ih => exact .tup (.inl (.inl e)) (dpAll_of l ih)
/-- things one by one as data -/
def EchN (N : Addr → Prop) (H : Hp) (xs : List V) (ds : List PyData) : Prop := xs.length = ds.length ∧ ∀ (i : Nat) x d, xs[i]? = some x → ds[i]? = some d → DatN N H x d
theorem EchN.keep {N : Addr → Prop} {H H' : Hp} {xs : List V} {ds : List PyData} (h : EchN N H xs ds) (k : Kps N H H') : EchN N H' xs ds := ⟨h.1, fun i x d e1 e2 => (h.2 i x d e1 e2).keep k⟩
theorem EchN.same {N : Addr → Prop} {H H' : Hp} {xs : List V} {ds : List PyData} (h : EchN N H xs ds) (s : Same H H') : EchN N H' xs ds := h.keep (.same s)
theorem EchN.weak {N N' : Addr → Prop} {H : Hp} {xs : List V} {ds : List PyData} (h : EchN N H xs ds) (w : ∀ a xs, N a → H a = some (.lst xs) → N' a) : EchN N' H xs ds := ⟨h.1, fun i x d e1 e2 => (h.2 i x d e1 e2).weak w⟩
theorem EchN.nil {N : Addr → Prop} {H : Hp} : EchN N H [] [] := ⟨rfl, fun _ _ _ e => nomatch e⟩
theorem EchN.cons {N : Addr → Prop} {H : Hp} {x : V} {d : PyData} {xs : List V} {ds : List PyData} (h : DatN N H x d) (hr : EchN N H xs ds) : EchN N H (x :: xs) (d :: ds) :=
  ⟨congrArg (· + 1) hr.1, fun i y e e1 e2 => by
    cases i with
    | zero => cases e1; cases e2; exact h
    | succ i => exact hr.2 i y e e1 e2⟩
theorem EchN.one {N : Addr → Prop} {H : Hp} {x : V} {d : PyData} (h : DatN N H x d) : EchN N H [x] [d] := .cons h .nil
theorem getElem?_two {α β : Type} {xs ys : List α} {us ws : List β} (l : xs.length = us.length) {i : Nat} {x : α} {u : β} (e1 : (xs ++ ys)[i]? = some x) (e2 : (us ++ ws)[i]? = some u) : (xs[i]? = some x ∧ us[i]? = some u) ∨ (ys[i - xs.length]? = some x ∧ ws[i - xs.length]? = some u) := by
  by_cases hi : i < xs.length
  · rw [List.getElem?_append_left hi] at e1
    rw [List.getElem?_append_left (by omega)] at e2
    exact .inl ⟨e1, e2⟩
  · rw [List.getElem?_append_right (by omega)] at e1 e2
    rw [← l] at e2
    exact .inr ⟨e1, e2⟩
theorem EchN.app {N : Addr → Prop} {H : Hp} {xs ys : List V} {ds es : List PyData} (h : EchN N H xs ds) (h' : EchN N H ys es) : EchN N H (xs ++ ys) (ds ++ es) :=
  ⟨by rw [List.length_append, List.length_append, h.1, h'.1], fun i v p e1 e2 => (getElem?_two h.1 e1 e2).elim (fun z => h.2 i v p z.1 z.2) (fun z => h'.2 _ v p z.1 z.2)⟩
theorem EchN.snoc {N : Addr → Prop} {H : Hp} {xs : List V} {ds : List PyData} {x : V} {d : PyData} (h : EchN N H xs ds) (h' : DatN N H x d) : EchN N H (xs ++ [x]) (ds ++ [d]) := h.app (.one h')
theorem EchN.at {N : Addr → Prop} {H : Hp} {xs : List V} {ds : List PyData} {i : Nat} {x : V} (h : EchN N H xs ds) (e : xs[i]? = some x) : ∃ d, ds[i]? = some d ∧ DatN N H x d := by
  have hi : i < ds.length := by rw [← h.1]; exact (List.getElem?_eq_some_iff.mp e).1
  exact ⟨_, List.getElem?_eq_getElem hi, h.2 i x _ e (List.getElem?_eq_getElem hi)⟩
theorem EchN.atM {α : Type} {N : Addr → Prop} {H : Hp} {xs : List V} {f : α → PyData} {ys : List α} {i : Nat} {x : V} (h : EchN N H xs (ys.map f)) (e : xs[i]? = some x) : ∃ y, ys[i]? = some y ∧ DatN N H x (f y) := by
  obtain ⟨d, e1, e2⟩ := h.at e
  rw [List.getElem?_map] at e1
  cases h : ys[i]? with
  | none => rw [h] at e1; cases e1
  | some y => rw [h] at e1; cases e1; exact ⟨y, rfl, e2⟩
theorem DatN.list {N : Addr → Prop} {H : Hp} {v : V} {ds : List PyData} (h : DatN N H v (.list ds)) : ∃ a xs, v = .ref a ∧ N a ∧ H a = some (.lst xs) ∧ EchN N H xs ds := by
  cases h with
  | lst n e l r => exact ⟨_, _, rfl, n, e, l, r⟩
theorem DatN.tuple {N : Addr → Prop} {H : Hp} {v : V} {ds : List PyData} (h : DatN N H v (.tuple ds)) : ∃ a xs, v = .ref a ∧ H a = some (.tup xs) ∧ EchN N H xs ds := by
  cases h with
  | tup e l r => exact ⟨_, _, rfl, e, l, r⟩
theorem EchN.lst {N : Addr → Prop} {H : Hp} {a : Addr} {xs : List V} {ds : List PyData} (h : EchN N H xs ds) (n : N a) (e : H a = some (.lst xs)) : DatN N H (.ref a) (.list ds) := .lst n e h.1 h.2
theorem EchN.tup {N : Addr → Prop} {H : Hp} {a : Addr} {xs : List V} {ds : List PyData} (h : EchN N H xs ds) (e : H a = some (.tup xs)) : DatN N H (.ref a) (.tuple ds) := .tup e h.1 h.2
theorem EchN.inv {N : Addr → Prop} {H : Hp} {xs : List V} {d : PyData} {ds : List PyData} (h : EchN N H xs (d :: ds)) : ∃ x xs', xs = x :: xs' ∧ DatN N H x d ∧ EchN N H xs' ds := by
  cases xs with
  | nil => exact nomatch h.1
  | cons x xs => exact ⟨x, xs, rfl, h.2 0 x d rfl rfl, Nat.succ.inj h.1, fun i y e e1 e2 => h.2 (i + 1) y e e1 e2⟩
theorem EchN.inv0 {N : Addr → Prop} {H : Hp} {xs : List V} (h : EchN N H xs []) : xs = [] := List.eq_nil_of_length_eq_zero h.1
theorem DatN.inv_int {N : Addr → Prop} {H : Hp} {v : V} {i : Int} (h : DatN N H v (.int i)) : v = .int i := by cases h; rfl
theorem DatN.inv_str {N : Addr → Prop} {H : Hp} {v : V} {x : Str} (h : DatN N H v (.str x)) : v = .str x := by cases h; rfl
theorem DatN.inv_non {N : Addr → Prop} {H : Hp} {v : V} (h : DatN N H v .none) : v = .non := by cases h; rfl
theorem DatN.inv_bl {N : Addr → Prop} {H : Hp} {v : V} {b : Bool} (h : DatN N H v (.bool b)) : v = .bl b := by cases h; rfl
theorem echN_ints {N : Addr → Prop} {H : Hp} (ns : List Int) : EchN N H (ns.map V.int) (ns.map PyData.int) := ⟨by rw [List.length_map, List.length_map], fun i x d e1 e2 => by
  rw [List.getElem?_map] at e1 e2
  cases h : ns[i]? with
  | none => rw [h] at e1; cases e1
  | some n =>
    rw [h] at e1 e2
    cases e1
    cases e2
    exact .int n⟩
theorem echN_strs {N : Addr → Prop} {H : Hp} (ns : List Str) : EchN N H (ns.map V.str) (ns.map PyData.str) := ⟨by rw [List.length_map, List.length_map], fun i x d e1 e2 => by
  rw [List.getElem?_map] at e1 e2
  cases h : ns[i]? with
  | none => rw [h] at e1; cases e1
  | some n =>
    rw [h] at e1 e2
    cases e1
    cases e2
    exact .str n⟩
theorem EchN.ints {N : Addr → Prop} {H : Hp} : ∀ {xs : List V} {ns : List Int}, EchN N H xs (ns.map PyData.int) → xs = ns.map V.int
  | _, [], h => h.inv0
  | _, n :: r, h => by
    obtain ⟨x, xs', rfl, h1, h2⟩ := EchN.inv h
    rw [h1.inv_int, EchN.ints h2]
    rfl
theorem EchN.strs {N : Addr → Prop} {H : Hp} : ∀ {xs : List V} {ns : List Str}, EchN N H xs (ns.map PyData.str) → xs = ns.map V.str
  | _, [], h => h.inv0
  | _, n :: r, h => by
    obtain ⟨x, xs', rfl, h1, h2⟩ := EchN.inv h
    rw [h1.inv_str, EchN.strs h2]
    rfl
/-- pairs of whole numbers -/
theorem _root_.GP.Prs.ech {N : Addr → Prop} {H : Hp} {us : List V} {ps : List (Int × Int)} (h : Prs H us ps) : EchN N H us (ps.map pairD) := ⟨by rw [List.length_map]; exact h.1, fun i x d e1 e2 => by
  obtain ⟨p, a, ep, rfl, ea⟩ := prs_at h e1
  rw [List.getElem?_map, ep] at e2
  cases e2
  exact EchN.tup (.cons (.int _) (.one (.int _))) ea⟩
theorem EchN.prs {N : Addr → Prop} {H : Hp} {us : List V} {ps : List (Int × Int)} (h : EchN N H us (ps.map pairD)) : Prs H us ps := ⟨by have := h.1; rwa [List.length_map] at this, fun i p ep => by
  have hi : i < us.length := by
    rw [h.1, List.length_map]
    exact (List.getElem?_eq_some_iff.mp ep).1
  obtain ⟨y, e1, e2⟩ := h.atM (List.getElem?_eq_getElem hi)
  rw [ep] at e1
  cases e1
  obtain ⟨a, xs, ev, ea, r⟩ := e2.tuple
  obtain ⟨x1, r1, rfl, d1, r2⟩ := r.inv
  obtain ⟨x2, r3, rfl, d2, r4⟩ := r2.inv
  rw [r4.inv0, d1.inv_int, d2.inv_int] at ea
  exact ⟨a, by rw [List.getElem?_eq_getElem hi, ev], ea⟩⟩
/-- new since then -/
abbrev NewIn (H : Hp) : Addr → Prop := fun a => H a = none
def setD (ps : List (Int × Int)) : PyData := .list (ps.map pairD)
/-! ### what can be shown -/
structure Shw (n w : Nat) (d : PyData) : Prop where
  sh : d.showable = true
  nd : d.hasDict = false
  dp : d.depth ≤ n
  ls : d.leavesShort 40 = true
  wt : d.weight ≤ w
theorem Shw.mono {n w n' w' : Nat} {d : PyData} (h : Shw n w d) (h1 : n ≤ n') (h2 : w ≤ w') : Shw n' w' d := ⟨h.sh, h.nd, Nat.le_trans h.dp h1, h.ls, Nat.le_trans h.wt h2⟩
theorem Shw.int {n : Nat} {i : Int} (h : i.natAbs < 10 ^ 39) : Shw n 131 (.int i) := by
  refine ⟨?_, by rw [PyData.hasDict], by rw [PyData.depth]; omega, ?_, ?_⟩
  · rw [PyData.showable]
    by_cases z : i.natAbs = 0
    · rw [z]; decide
    · exact decide_eq_true (Nat.lt_trans ((Nat.log2_lt (k := 130) z).mpr (Nat.lt_trans h (by decide))) (by decide))
  · rw [PyData.leavesShort]
    have e := int_text_length_le10 (k := 39) (by decide) h
    refine decide_eq_true ?_
    show (Str.ofString (toString i)).length ≤ 40
    rw [PySem.ofString_length]
    exact e
  · rw [PyData.weight]
    split
    · omega
    · by_cases z : i.natAbs = 0
      · rw [z]; decide
      · have : i.natAbs.log2 < 130 := (Nat.log2_lt z).mpr (Nat.lt_trans h (by decide))
        omega
theorem Shw.str {n w : Nat} {x : Str} (h : PyData.strOk x = true) (hl : x.length ≤ w) : Shw n w (.str x) := by
  refine ⟨by rw [PyData.showable], by rw [PyData.hasDict], by rw [PyData.depth]; omega, ?_, by rw [PyData.weight]; exact hl⟩
  rw [PyData.leavesShort, List.all_eq_true]
  intro c hc
  have h' : x.cps.all (· < 0x110000) = true := h
  rw [Array.all_eq_true'] at h'
  have := of_decide_eq_true (h' c (by simpa using hc))
  exact decide_eq_true (Nat.lt_trans this (by decide))
theorem Shw.none {n w : Nat} : Shw n w .none := ⟨by rw [PyData.showable], by rw [PyData.hasDict], by rw [PyData.depth]; omega, by rw [PyData.leavesShort], by rw [PyData.weight]; omega⟩
theorem Shw.bool {n w : Nat} {b : Bool} : Shw n w (.bool b) := ⟨by rw [PyData.showable], by rw [PyData.hasDict], by rw [PyData.depth]; omega, by rw [PyData.leavesShort], by rw [PyData.weight]; omega⟩
theorem shwAll : ∀ {n w : Nat} {ds : List PyData}, (∀ d ∈ ds, Shw n w d) → PyData.showableAll ds = true ∧ PyData.hasDictAll ds = false ∧ PyData.depthAll ds ≤ n ∧ PyData.leavesShortAll 40 ds = true ∧ PyData.weightAll ds ≤ ds.length * (w + 1)
  | n, w, [], _ => by simp [PyData.leavesShortAll, PyData.weightAll, PyData.showableAll, PyData.hasDictAll, PyData.depthAll]
  | n, w, d :: r, h => by
    obtain ⟨g1, g2, g3, g4, g5⟩ := shwAll (ds := r) fun q hq => h q (List.mem_cons_of_mem _ hq)
    obtain ⟨h1, h2, h3, h4, h5⟩ := h d (List.mem_cons_self ..)
    refine ⟨by rw [PyData.showableAll, h1, g1]; rfl, by rw [PyData.hasDictAll, h2, g2]; rfl, by rw [PyData.depthAll]; omega, by rw [PyData.leavesShortAll, h4, g4]; rfl, ?_⟩
    rw [PyData.weightAll, List.length_cons, Nat.succ_mul]
    omega
theorem Shw.list {n w m W : Nat} {ds : List PyData} (h : ∀ d ∈ ds, Shw n w d) (hl : ds.length ≤ m) (hW : m * (w + 1) ≤ W) : Shw (n + 1) W (.list ds) := by
  obtain ⟨g1, g2, g3, g4, g5⟩ := shwAll h
  have := Nat.mul_le_mul_right (w + 1) hl
  exact ⟨by rw [PyData.showable]; exact g1, by rw [PyData.hasDict]; exact g2, by rw [PyData.depth]; omega, by rw [PyData.leavesShort]; exact g4, by rw [PyData.weight]; omega⟩
theorem Shw.tuple {n w m W : Nat} {ds : List PyData} (h : ∀ d ∈ ds, Shw n w d) (hl : ds.length ≤ m) (hW : m * (w + 1) ≤ W) : Shw (n + 1) W (.tuple ds) := by
  obtain ⟨g1, g2, g3, g4, g5⟩ := shwAll h
  have := Nat.mul_le_mul_right (w + 1) hl
  exact ⟨by rw [PyData.showable]; exact g1, by rw [PyData.hasDict]; exact g2, by rw [PyData.depth]; omega, by rw [PyData.leavesShort]; exact g4, by rw [PyData.weight]; omega⟩
theorem Shw.listM {α : Type} {n w m W : Nat} {f : α → PyData} {ys : List α} (h : ∀ y ∈ ys, Shw n w (f y)) (hl : ys.length ≤ m) (hW : m * (w + 1) ≤ W) : Shw (n + 1) W (.list (ys.map f)) :=
  .list (fun d hd => by obtain ⟨y, hy, rfl⟩ := List.mem_map.mp hd; exact h y hy) (by rw [List.length_map]; exact hl) hW
theorem all2 {α : Type} {P : α → Prop} {x y : α} (h1 : P x) (h2 : P y) : ∀ z ∈ [x, y], P z := fun z hz => by
  rcases List.mem_cons.mp hz with e | e
  · rw [e]; exact h1
  · rw [List.mem_singleton.mp e]; exact h2
theorem all3 {α : Type} {P : α → Prop} {x y u : α} (h1 : P x) (h2 : P y) (h3 : P u) : ∀ z ∈ [x, y, u], P z := fun z hz => by
  rcases List.mem_cons.mp hz with e | e
  · rw [e]; exact h1
  · exact all2 h2 h3 z e
theorem Shw.shown {w : Nat} {d : PyData} (h : Shw 8 w d) (hw : w ≤ 390000) : d.showable = true ∧ d.hasDict = false ∧ d.depth ≤ 8 ∧ d.shown.length ≤ sizeLine :=
  ⟨h.sh, h.nd, h.dp, by
    have z := PyData.shown_le 40 (by decide) d h.ls
    have := h.wt
    exact Nat.le_trans z (Nat.le_trans (show (40 + 2) * d.weight + 40 ≤ 16380040 by omega) (by decide))⟩

/-! ### comprehensions, by what they make -/
/-- a thing's truth, as a test -/
def tTru (K : PySem.W.Frag) (te : TE) : TT := fun σ H Q => te σ H fun x H' => ∃ k, TruV K x H' k ∧ Q k H'
abbrev LcW (J : It) (g : TG) (tt : TT) (te : TE) (vs : List Nat) (σ : L2.St) (D : Addr) (Qd : Hp → Prop) (H1 : Hp) : Prop := ∃ W : Nat → Nat → Hp → Prop, (∃ m, W 0 m (upd H1 D (.lst []))) ∧ ∀ i m H, W i m H →
  (J.stop i H ∧ Qd H) ∨ (J.go i H ∧ ∃ Nx : Hp → Prop, (∀ H', Nx H' → ∃ m', m' < m ∧ W (i + 1) m' H') ∧ ∀ x H', J.yld i H x H' → g x (wipe σ vs) H' fun σ2 H2 => wipe σ2 vs = wipe σ vs ∧ tt σ2 H2 fun b H3 => if b = true then
    te σ2 H3 fun y H4 => ∃ acc, H4 D = some (.lst acc) ∧ acc.length < sizeLine ∧ Nx (upd H4 D (.lst (acc ++ [y]))) else Nx H3)
/-- each item makes something new, all else stays -/
theorem lc_new {J : It} {n : Nat} {G : Hp → Prop} {Y : Nat → Hp → V → Hp → Prop} (w : Walk J n G Y) {g : TG} {tt : TT} {te : TE} {vs : List Nat} {σ : L2.St} {H1 : Hp} {D : Addr} {Qd : Hp → Prop} (ds : List PyData) (nD : H1 D = none) (hn : ds.length = n) (hz : n ≤ 1000) (hG : ∀ H, Same H1 H → G H)
    (turn : ∀ i x d H H' (Kt : V → Hp → Prop) (Kn : Hp → Prop), ds[i]? = some d → Same H1 H → Y i H x H' → (∀ y H4, Same H H4 → DatN (NewIn H) H4 y d → Kt y H4) → g x (wipe σ vs) H' fun σ2 H2 => wipe σ2 vs = wipe σ vs ∧ tt σ2 H2 fun b H3 => if b = true then te σ2 H3 Kt else Kn H3)
    (fin : ∀ H, Same H1 H → DatN (NewIn H1) H (.ref D) (.list ds) → Qd H) : LcW J g tt te vs σ D Qd H1 := by
  refine lc_it w (fun j H => Same H1 H ∧ ∃ ws, H D = some (.lst ws) ∧ EchN (fun a => H1 a = none ∧ a ≠ D) H ws (ds.take j)) ⟨same_upd nD, [], upd_same, .nil⟩ (fun i H _ p => hG H p.1) (fun i x H H' hi hP hy => ?_) (fun H hP => ?_)
  · obtain ⟨sm, ws, eD, hws⟩ := hP
    have hd : ds[i]? = some ds[i] := List.getElem?_eq_getElem (by omega)
    refine turn i x _ H H' _ _ hd sm hy fun y H4 s4 hd4 => ?_
    have eD4 := s4 _ _ eD
    have hl : ws.length ≤ 1000 := by
      rw [hws.1, List.length_take]
      omega
    have hl' : ws.length < 1000 := by
      rw [hws.1, List.length_take]
      omega
    refine ⟨ws, eD4, Nat.lt_of_lt_of_le hl' (by decide), fun b o e => ?_, ws ++ [y], upd_same, ?_⟩
    · rw [upd_ne (ne_of_none e nD)]
      exact s4 _ _ (sm b o e)
    · rw [List.take_add_one, hd]
      have k : Kps (fun a => H1 a = none ∧ a ≠ D) H4 (upd H4 D (.lst (ws ++ [y]))) := .upd eD4 fun a z => z.2
      refine ((hws.same s4).keep k).snoc (DatN.keep (hd4.weak fun a xs (z : H a = none) e => ⟨sm.free z, fun q => ?_⟩) k)
      rw [q, eD] at z
      cases z
  · obtain ⟨sm, ws, eD, hws⟩ := hP
    rw [List.take_of_length_le (by omega)] at hws
    exact fin H sm ((hws.weak fun a _ z _ => z.1).lst nD eD)
/-- each item makes something new by draws -/
theorem lc_draw {α : Type} (f : α → PyData) (R : Nat → α → Prop) (T : Int) {J : It} {n : Nat} {G : Hp → Prop} {Y : Nat → Hp → V → Hp → Prop} (w : Walk J n G Y) {g : TG} {tt : TT} {te : TE} {vs : List Nat} {σ : L2.St} {H1 : Hp} {D d c : Addr} {t1 : Int} {Qd : Hp → Prop} (S1 : StAt H1 d c t1) (nD : H1 D = none) (hz : n ≤ 1000) (hG : ∀ H, Kp d c H1 H → G H)
    (turn : ∀ i x H H' t (Kt : V → Hp → Prop) (Kn : Hp → Prop), i < n → t1 ≤ t → t ≤ t1 + T * (i : Int) → StAt H d c t → Kp d c H1 H → Y i H x H' → (∀ z y t' H4, R i z → DatN (NewIn H) H4 y (f z) → t ≤ t' → t' ≤ t + T → StAt H4 d c t' → Kp d c H H4 → Kt y H4) →
      g x (wipe σ vs) H' fun σ2 H2 => wipe σ2 vs = wipe σ vs ∧ tt σ2 H2 fun b H3 => if b = true then te σ2 H3 Kt else Kn H3)
    (fin : ∀ (H : Hp) (t : Int) (zs : List α), zs.length = n → (∀ (i : Nat) z, zs[i]? = some z → R i z) → t1 ≤ t → t ≤ t1 + T * (n : Int) → StAt H d c t → Kp d c H1 H → DatN (NewIn H1) H (.ref D) (.list (zs.map f)) → Qd H) : LcW J g tt te vs σ D Qd H1 := by
  have off := S1.off nD
  refine lc_it w (fun j H => ∃ (t : Int) (ws : List V) (zs : List α), H D = some (.lst ws) ∧ EchN (fun a => H1 a = none ∧ a ≠ D) H ws (zs.map f) ∧ zs.length = j ∧ (∀ (i : Nat) z, zs[i]? = some z → R i z) ∧ t1 ≤ t ∧ t ≤ t1 + T * (j : Int) ∧ StAt H d c t ∧ Kp d c H1 H)
    ⟨t1, [], [], upd_same, .nil, rfl, (fun _ _ e => nomatch e), Int.le_refl _, by omega, S1.same (same_upd nD), Kp.same d c (same_upd nD)⟩ (fun i H _ hP => ?_) (fun i x H H' hi hP hy => ?_) (fun H hP => ?_)
  · obtain ⟨_, _, _, _, _, _, _, _, _, _, k⟩ := hP
    exact hG H k
  · obtain ⟨t, ws, zs, eD, hws, hzl, hR, t0, t2, hS, k⟩ := hP
    refine turn i x H H' t _ _ hi t0 t2 hS k hy fun z y t' H4 hz' hd4 u0 u1 hS4 k4 => ?_
    have eD4 := k4 _ _ off.1 off.2 eD
    have hwl : ws.length = i := by rw [hws.1, List.length_map, hzl]
    have kk : Kps (fun a => H1 a = none ∧ a ≠ D) H4 (upd H4 D (.lst (ws ++ [y]))) := .upd eD4 fun a z => z.2
    have k1 : Kps (fun a => H1 a = none ∧ a ≠ D) H H4 := .kp k4 hS fun a z q => by
      obtain ⟨cs, ec, _⟩ := S1.cells
      rw [q, ec] at z
      exact nomatch z.1
    refine ⟨ws, eD4, Nat.lt_of_lt_of_le (show ws.length < 1000 by omega) (by decide), t', ws ++ [y], zs ++ [z], upd_same, ?_, by rw [List.length_append, hzl]; rfl, fun j q e => ?_, by omega, ?_, hS4.upd off.1 off.2, fun b o b1 b2 e => ?_⟩
    · rw [List.map_append]
      refine ((hws.keep k1).keep kk).snoc (DatN.keep (hd4.weak fun a xs (z : H a = none) e => ⟨?_, fun q => ?_⟩) kk)
      · cases e1 : H1 a with
        | none => rfl
        | some o =>
          by_cases z1 : a = d
          · rw [z1, hS.dict] at z; cases z
          · by_cases z2 : a = c
            · obtain ⟨cs, ec, _⟩ := hS.cells
              rw [z2, ec] at z; cases z
            · have := k a o z1 z2 e1
              rw [this] at z
              cases z
      · rw [q, eD] at z
        cases z
    · by_cases hj : j < zs.length
      · rw [List.getElem?_append_left hj] at e
        exact hR j q e
      · rw [List.getElem?_append_right (by omega)] at e
        have hj0 : j - zs.length < 1 := (List.getElem?_eq_some_iff.mp e).1
        have ej : j = i := by omega
        subst ej
        rw [hzl, Nat.sub_self] at e
        cases e
        exact hz'
    · have : T * ((i + 1 : Nat) : Int) = T * (i : Int) + T := by
        rw [Int.natCast_add, Int.mul_add]
        omega
      omega
    · rw [upd_ne (ne_of_none e nD)]
      exact k4 b o b1 b2 (k b o b1 b2 e)
  · obtain ⟨t, ws, zs, eD, hws, hzl, hR, t0, t2, hS, k⟩ := hP
    exact fin H t zs hzl hR t0 t2 hS k ((hws.weak fun a _ z _ => z.1).lst nD eD)
/-- those items of which this holds -/
theorem lc_keep {K : PySem.W.Frag} {a : Addr} {xs : List V} (pb : V → Bool) {g : TG} {tt : TT} {te : TE} {vs : List Nat} {σ : L2.St} {H1 : Hp} {D : Addr} {Qd : Hp → Prop} (nD : H1 D = none) (ea : H1 a = some (.lst xs)) (hz : xs.length ≤ 1000)
    (turn : ∀ (i : Nat) (x : V) (H : Hp) (Kt : V → Hp → Prop) (Kn : Hp → Prop), xs[i]? = some x → Same H1 H → (∀ H4, Same H H4 → pb x = true → Kt x H4) → (∀ H4, Same H H4 → pb x = false → Kn H4) → g x (wipe σ vs) H fun σ2 H2 => wipe σ2 vs = wipe σ vs ∧ tt σ2 H2 fun b H3 => if b = true then te σ2 H3 Kt else Kn H3)
    (fin : ∀ H, Same H1 H → H D = some (.lst (xs.filter pb)) → Qd H) : LcW (Itl K a) g tt te vs σ D Qd H1 := by
  refine lc_it walk_list (fun j H => Same H1 H ∧ H D = some (.lst ((xs.take j).filter pb))) ⟨same_upd nD, upd_same⟩ (fun i H _ p => SqL.of (p.1 _ _ ea)) (fun i x H H' hi hP hy => ?_) (fun H hP => ?_)
  · obtain ⟨sm, eD⟩ := hP
    obtain ⟨rfl, hx⟩ := hy
    have et : (xs.take (i + 1)).filter pb = (xs.take i).filter pb ++ (if pb x = true then [x] else []) := by
      rw [List.take_add_one, hx, List.filter_append]
      by_cases c : pb x = true
      · rw [if_pos c]
        show _ ++ List.filter pb [x] = _
        rw [List.filter_cons_of_pos c]
        rfl
      · rw [if_neg c]
        show _ ++ List.filter pb [x] = _
        rw [List.filter_cons_of_neg c]
        rfl
    have hl : ((xs.take i).filter pb).length ≤ i := Nat.le_trans (List.length_filter_le ..) (by rw [List.length_take]; omega)
    refine turn i x H' _ _ hx sm (fun H4 s4 c => ?_) (fun H4 s4 c => ?_)
    · refine ⟨_, s4 _ _ eD, Nat.lt_of_lt_of_le (show _ < 1000 by omega) (by decide), fun b o e => ?_, ?_⟩
      · rw [upd_ne (ne_of_none e nD)]
        exact s4 _ _ (sm b o e)
      · rw [upd_same, et, if_pos c]
    · refine ⟨sm.trans s4, ?_⟩
      rw [et, if_neg (by rw [c]; decide), List.append_nil]
      exact s4 _ _ eD
  · obtain ⟨sm, eD⟩ := hP
    rw [List.take_length] at eD
    exact fin H sm eD
theorem lc_new_seq {K : PySem.W.Frag} {a : Addr} {xs : List V} {g : TG} {tt : TT} {te : TE} {vs : List Nat} {σ : L2.St} {H1 : Hp} {Qd : Addr → Hp → Prop} (hq : SqH H1 a xs) (ds : List PyData) (hn : ds.length = xs.length) (hz : xs.length ≤ 1000)
    (turn : ∀ (i : Nat) (x : V) (d : PyData) (H : Hp) (Kt : V → Hp → Prop) (Kn : Hp → Prop), xs[i]? = some x → ds[i]? = some d → Same H1 H → (∀ y H4, Same H H4 → DatN (NewIn H) H4 y d → Kt y H4) → g x (wipe σ vs) H fun σ2 H2 => wipe σ2 vs = wipe σ vs ∧ tt σ2 H2 fun b H3 => if b = true then te σ2 H3 Kt else Kn H3)
    (fin : ∀ D H, H1 D = none → Same H1 H → DatN (NewIn H1) H (.ref D) (.list ds) → Qd D H) :
    ((∃ xs, SqL K H1 a xs) ∧ ∀ D, H1 D = none → LcR (Itl K a) g tt te vs σ D Qd H1) ∨ ((∃ xs, SqT K H1 a xs) ∧ ∀ D, H1 D = none → LcR (Itt K a) g tt te vs σ D Qd H1) := by
  rcases hq with h | h
  · exact .inl ⟨⟨xs, SqL.of h⟩, fun D nD => lc_new (walk_list (xs := xs)) ds nD hn hz (fun H s => SqL.of (s _ _ h)) (fun i x d H H' Kt Kn hd sm hy k => by obtain ⟨rfl, hx⟩ := hy; exact turn i x d H' Kt Kn hx hd sm k) (fun H s d => fin D H nD s d)⟩
  · exact .inr ⟨⟨xs, .inl (.inl h)⟩, fun D nD => lc_new (walk_tup (xs := xs)) ds nD hn hz (fun H s => .inl (.inl (s _ _ h))) (fun i x d H H' Kt Kn hd sm hy k => by obtain ⟨rfl, hx⟩ := hy; exact turn i x d H' Kt Kn hx hd sm k) (fun H s d => fin D H nD s d)⟩
theorem lc_new_list {K : PySem.W.Frag} {a : Addr} {xs : List V} {g : TG} {tt : TT} {te : TE} {vs : List Nat} {σ : L2.St} {H1 : Hp} {D : Addr} {Qd : Hp → Prop} (nD : H1 D = none) (hq : H1 a = some (.lst xs)) (ds : List PyData) (hn : ds.length = xs.length) (hz : xs.length ≤ 1000)
    (turn : ∀ (i : Nat) (x : V) (d : PyData) (H : Hp) (Kt : V → Hp → Prop) (Kn : Hp → Prop), xs[i]? = some x → ds[i]? = some d → Same H1 H → (∀ y H4, Same H H4 → DatN (NewIn H) H4 y d → Kt y H4) → g x (wipe σ vs) H fun σ2 H2 => wipe σ2 vs = wipe σ vs ∧ tt σ2 H2 fun b H3 => if b = true then te σ2 H3 Kt else Kn H3)
    (fin : ∀ H, Same H1 H → DatN (NewIn H1) H (.ref D) (.list ds) → Qd H) : LcW (Itl K a) g tt te vs σ D Qd H1 :=
  lc_new (walk_list (xs := xs)) ds nD hn hz (fun H s => SqL.of (s _ _ hq)) (fun i x d H H' Kt Kn hd sm hy k => by obtain ⟨rfl, hx⟩ := hy; exact turn i x d H' Kt Kn hx hd sm k) fin

theorem nodup_len {α : Type} [DecidableEq α] : ∀ {l m : List α}, l.Nodup → (∀ x ∈ l, x ∈ m) → l.length ≤ m.length
  | [], _, _, _ => Nat.zero_le _
  | x :: r, m, nd, h => by
    have nx := (List.nodup_cons.mp nd).1
    have ih := nodup_len (m := m.erase x) (List.nodup_cons.mp nd).2 fun y hy => by
      have hne : y ≠ x := fun e => nx (e ▸ hy)
      exact (List.mem_erase_of_ne hne).mpr (h y (List.mem_cons_of_mem _ hy))
    have e := List.length_erase_of_mem (h x (List.mem_cons_self ..))
    have pos : 0 < m.length := List.length_pos_of_mem (h x (List.mem_cons_self ..))
    rw [List.length_cons]
    omega

open Classical in
/-- the one list of a set -/
noncomputable def canon (pr : Int → Prop) : List (Int × Int) := if h : ∃ rs, Told pr rs then Classical.choose h else []
theorem Told.canon {pr : Int → Prop} {rs : List (Int × Int)} (h : Told pr rs) : rs = canon pr := by
  unfold TK.canon
  rw [dif_pos ⟨rs, h⟩]
  exact h.one (Classical.choose_spec (p := fun rs => Told pr rs) ⟨rs, h⟩) fun _ => Iff.rfl
theorem canon_cong {pr pr' : Int → Prop} (h : ∀ n, pr n ↔ pr' n) : canon pr = canon pr' := by rw [show pr = pr' from funext fun n => propext (h n)]

/-! ### numbers within their bounds; texts as lists of signs -/
theorem mulw {i j : Int} (hi : i.natAbs < 2 ^ 250) (hj : j.natAbs < 2 ^ 250) : CMulW i j := wide_mul hi hj (by decide) (by decide) (by decide)
theorem divw {i j : Int} (h : 0 < j) (hj : j.natAbs < 2 ^ 250) : CDivW i j := wide_div h hj (by decide) (by decide)
theorem S_of (z : Str) : z = SX.S z.cps.toList := (SX.S_tl z).symm
theorem S_cps (a : List Nat) : (SX.S a).cps.toList = a := by simp [SX.S]
theorem cutS_take (a : List Nat) (k : Nat) : cutS (SX.S a) none (some (k : Int)) = SX.S (a.take k) := by
  unfold cutS
  rw [HT.sIx_none, HT.sIx_nat, SX.S_len, S_cps, List.drop_zero, Nat.sub_zero]
  by_cases h : k ≤ a.length
  · rw [Nat.min_eq_left h]
  · rw [Nat.min_eq_right (by omega), List.take_of_length_le (Nat.le_refl _), List.take_of_length_le (by omega)]
theorem cutS_drop (a : List Nat) (k : Nat) : cutS (SX.S a) (some (k : Int)) none = SX.S (a.drop k) := by
  unfold cutS
  rw [HT.sIx_none, HT.sIx_nat, SX.S_len, S_cps]
  by_cases h : k ≤ a.length
  · rw [Nat.min_eq_left h, List.take_of_length_le (by rw [List.length_drop]; omega)]
  · rw [Nat.min_eq_right (by omega), List.drop_eq_nil_of_le (Nat.le_refl _), List.drop_eq_nil_of_le (by omega), List.take_nil]
theorem cutS_mid (a : List Nat) (i j : Nat) : cutS (SX.S a) (some (i : Int)) (some (j : Int)) = SX.S ((a.drop i).take (j - i)) := by
  unfold cutS
  rw [HT.sIx_nat, HT.sIx_nat, SX.S_len, S_cps]
  by_cases h : i ≤ a.length
  · rw [Nat.min_eq_left h]
    by_cases h2 : j ≤ a.length
    · rw [Nat.min_eq_left h2]
    · rw [Nat.min_eq_right (by omega), List.take_of_length_le (by rw [List.length_drop]; omega), List.take_of_length_le (by rw [List.length_drop]; omega)]
  · rw [Nat.min_eq_right (by omega : a.length ≤ i), List.drop_eq_nil_of_le (Nat.le_refl _), List.drop_eq_nil_of_le (by omega), List.take_nil, List.take_nil]
/-- the sign at a place within -/
theorem sign_at {a : List Nat} {j : Nat} (h : j < a.length) : atI (SX.S a).cps.toList (j : Int) = some a[j] := by
  rw [S_cps]
  exact atI_nat (List.getElem?_eq_getElem h)
theorem S_le {a : List Nat} (h : a.length ≤ 10000) : (SX.S a).length ≤ sizeLine := by rw [SX.S_len]; exact Nat.le_trans h (by decide)
theorem strOk_S {a : List Nat} (h : ∀ c ∈ a, c < 1114112) : PyData.strOk (SX.S a) = true := by
  show (Array.all _ _) = true
  rw [Array.all_eq_true']
  intro c hc
  exact decide_eq_true (h c (by simpa using hc))
theorem join_signs (cs : List Nat) : Txt.join "" (cs.map sgS) = SX.S cs := by
  have z := SX.join_S [] (cs.map fun c => [c])
  rw [joinL_ones, List.map_map] at z
  exact z
theorem join_fits {cs : List Nat} (h : cs.length ≤ 10000) : ((cs.map sgS).map (·.length)).sum + (cs.map sgS).length * ("" : Str).length ≤ 16777216 := by
  have e : ∀ cs : List Nat, ((cs.map sgS).map (·.length)).sum = cs.length := fun cs => by
    induction cs with
    | nil => rfl
    | cons c r ih =>
      rw [List.map_cons, List.map_cons, List.sum_cons, ih, List.length_cons]
      show 1 + r.length = r.length + 1
      omega
  rw [e, show ("" : Str).length = 0 from rfl, Nat.mul_zero]
  omega

/-! ### what stands where: pairs in a list or a tuple -/
def PrA (K : PySem.W.Frag) (H : Hp) (a : Addr) (ps : List (Int × Int)) : Prop := ∃ us, Sq K H a us ∧ Prs H us ps
def LsA (H : Hp) (a : Addr) (ps : List (Int × Int)) : Prop := ∃ us, H a = some (.lst us) ∧ Prs H us ps
theorem LsA.pr {K : PySem.W.Frag} {H : Hp} {a : Addr} {ps : List (Int × Int)} (h : LsA H a ps) : PrA K H a ps := let ⟨us, e, p⟩ := h; ⟨us, Sq.list e, p⟩
theorem LsA.same {H H' : Hp} {a : Addr} {ps : List (Int × Int)} (h : LsA H a ps) (s : Same H H') : LsA H' a ps := let ⟨us, e, p⟩ := h; ⟨us, s _ _ e, p.same s⟩
theorem PrA.same {K : PySem.W.Frag} {H H' : Hp} {a : Addr} {ps : List (Int × Int)} (h : PrA K H a ps) (s : Same H H') : PrA K H' a ps := let ⟨us, e, p⟩ := h; ⟨us, e.same s, p.same s⟩
theorem LsA.nil {H : Hp} {a : Addr} (e : H a = some (.lst [])) : LsA H a [] := ⟨[], e, Prs.nil⟩
theorem LsA.dp {K : PySem.W.Frag} {H : Hp} {a : Addr} {ps : List (Int × Int)} (h : LsA H a ps) : Dp K H (.ref a) (.list (ps.map pairD)) := let ⟨_, e, p⟩ := h; .lst (SqL.of e) (dp_prs p)
/-- a told set: a new list -/
def TellS (pr : Int → Prop) (m : Nat) (H : Hp) (Q : VK) : Prop := ∀ l rs H', H l = none → LsA H' l rs → Told pr rs → rs.length ≤ m → Same H H' → Q (.ref l) H'

/-! ### sorted(set(xs)) of a list of whole numbers, however many -/
section
variable {P : Program} {w : World} {A : Around} {E : Value → Shared → Prop} {s : Shared}
/-- a new, empty set's object -/
abbrev set0 (w : World) : Obj := { cls := .type "set", dict := none, data := .set #[] 0 (.fresh 0 0 (!w.params.followText "set-order")) }
set_option maxRecDepth 100000 in
set_option maxHeartbeats 3200000 in
theorem set_from_list {from_ : Addr} {vs : Array Value} (nums : List Int) {Qv : Value → Shared → Prop} (calm : A.handled = none) (isl : s.heap.IsList from_ vs) (isN : IntsAre vs.toList nums) (few : nums.length + 1 < scanBound)
    (end_ : ∀ (hp' : Heap) (tk c : Nat), SetR w hp' s.heap.objs.size (fun j => decide (j ∈ nums)) c → c ≤ nums.length → (∀ b o, s.heap.get? b = some o → hp'.get? b = some o) → Qv (.ref s.heap.objs.size) { s with heap := hp', toks := tk }) :
    wpAny (model P w) A (call (.type "set") [.ref from_]) Qv E s := by
  have size_is : vs.size = nums.length := by
    rw [← Array.length_toList]
    exact IntsAre.length isN
  obtain ⟨c0, tl0, mro0⟩ := F.called_set.mro
  have made0 := F.called_set.made
  have sub0 := F.called_set.sub
  refine wpAny_call (codeAny_of_tree ?_)
  show wpAny _ _ (callAny (.type "set") _) _ _ _
  refine wpAny_pure ⟨Code.quiet_builtin _ (by decide +kernel), codeAny_builtin F.entry_type_call ?_⟩ -- the type is called
  rw [Around.under_plain (weight_type_call_type "set" [.ref from_] []) rfl]
  have no_type := F.called_set.notType
  have can_make := F.called_set.canCreate
  have checked := F.typeCall_set_1 (.ref from_)
  repeat (any_goals (first | assumption | wp_step | fail))
  refine codeAny_mono (code_set_led1 (.ref from_) (E := E) (Q₁ := fun made st => made = .ref s.heap.objs.size ∧ st = { s with heap := s.heap.push (set0 w) }) ⟨rfl, rfl⟩) fun r1 st1 told => ?_
  cases r1 with
  | error e => exact told
  | ok fl =>
    cases fl with
    | ret made =>
      obtain ⟨rfl, rfl⟩ := told
      have here : (s.heap.push (set0 w)).get? s.heap.objs.size = some (set0 w) := Heap.get?_push_size _ rfl
      have isS : Shared.TypeIs { s with heap := s.heap.push (set0 w) } (.ref s.heap.objs.size) "set" := ⟨_, here, rfl⟩
      have look := F.called_set.init.lookup
      have bnd := F.called_set.init.bind (.ref s.heap.objs.size)
      repeat (any_goals (first | assumption | wp_step | fail))
      refine codeAny_mono (codeAny_call_builtin (R := wants (fun r st => r = .none ∧ ∃ hp' tk c, st = { s with heap := hp', toks := tk } ∧ SetR w hp' s.heap.objs.size (fun j => decide (j ∈ nums)) c ∧ c ≤ nums.length ∧ (∀ b o, s.heap.get? b = some o → hp'.get? b = some o)) E) F.called_set.init.plain F.entry_set_init (check_set_init_1 isS ?_)) fun r2 st2 told2 => ?_
      · obtain ⟨ol, got, clsl, nl, datal⟩ := isl
        obtain ⟨ocls, odict, odata, oslots⟩ := ol
        simp only at clsl datal
        subst clsl; subst datal
        have got' : (s.heap.push (set0 w)).get? from_ = some { cls := .type "list", dict := odict, data := .seq vs nl, slots := oslots } := Heap.get?_push_of_some _ got
        have sub1 := F.sub_list_set
        have sub2 := F.sub_list_frozenset
        have no_dict : (Value.type "list" == Value.type "dict") = false := by decide
        have isl1 : (s.heap.push (set0 w)).IsList from_ vs := ⟨_, got', rfl, nl, rfl⟩
        unfold Builtin.«set.__init__» noKeywords Builtin.Frozenset.updateFrom -- its init
        generalize keepP : pyIter = PI
        wp_walk
        subst keepP
        refine wpAny_pyIter_list isl1 (wpAny_bind (wpAny_runValue ?_))
        have lt0 : from_ < s.heap.objs.size := Heap.lt_size got
        have calm3 : A.in1.in1.in1.handled = none := by simp [calm]
        have ne1 : from_ ≠ (s.heap.push (set0 w)).objs.size := by
          rw [Heap.size_push]
          exact Nat.ne_of_lt (Nat.lt_succ_of_lt lt0)
        have apart : s.heap.objs.size ∉ [(s.heap.push (set0 w)).objs.size, from_] := by
          rw [Heap.size_push]
          simp only [List.mem_cons, List.mem_singleton, List.not_mem_nil, or_false, not_or] -- both
          exact ⟨Nat.ne_of_lt (Nat.lt_succ_self _), Nat.ne_of_gt lt0⟩
        have vals : ∀ (i : Nat) (v : Value), vs[i]? = some v → ∃ k t, nums[i]? = some k ∧ v = .int k t := fun i v at_ => by
          have lt : i < nums.length := by
            rw [← size_is]
            exact (Array.getElem?_eq_some_iff.mp at_).1
          obtain ⟨t, e⟩ := PyProof.Rows.IntsAre.int_at isN i v (by rw [Array.getElem?_toList]; exact at_)
          refine ⟨nums[i], t, List.getElem?_eq_getElem lt, ?_⟩
          rw [e, List.getD_eq_getElem?_getD, List.getElem?_eq_getElem lt]
          rfl
        refine set_update_ints ((Walks.list calm3 _ from_ ne1 vs).toS) s.heap.objs.size apart nums size_is few vals (vs.size - 0) 0 _ (by omega) (Nat.zero_le _) ⟨⟨_, Heap.get?_push_size _ rfl, rfl, rfl⟩, (isl1.push _)⟩ ⟨0, Nat.le_refl 0, setR_new_at (Heap.get?_push_of_some _ here)⟩ ?_
        intro st3 c3 moved le3 set3
        obtain ⟨hp3, g3, d3, tk3, os3⟩ := st3
        obtain rfl : g3 = s.gens := moved.gens
        obtain rfl : d3 = s.drawn := moved.drawn
        obtain rfl : os3 = s.os := moved.os
        show wpAny _ _ _ _ _ _
        refine wpAny_pure ?_
        show wpAny _ _ (ret Value.none) _ _ _
        rw [size_is] at le3
        refine wpAny_pure ⟨rfl, hp3, tk3, c3, rfl, set3, le3, fun b o e => ?_⟩
        have lt1 : b < s.heap.objs.size := Heap.lt_size e
        refine moved.heap b o (fun z => ?_) (Heap.get?_push_of_some _ (Heap.get?_push_of_some _ e))
        rcases List.mem_cons.mp z with z | z
        · exact absurd z (Nat.ne_of_lt lt1)
        · have z' := List.mem_singleton.mp z
          rw [Heap.size_push] at z'
          exact absurd z' (Nat.ne_of_lt (Nat.lt_succ_of_lt lt1))
      · cases r2 with
        | error e => exact told2
        | ok fl2 =>
          cases fl2 with
          | ret r =>
            obtain ⟨rfl, hp', tk, c', rfl, z1, z2, z3⟩ := told2
            repeat (any_goals (first | assumption | wp_step | fail))
            exact end_ _ _ _ z1 z2 z3
          | _ => exact told2.elim
    | _ => exact told.elim
/-- sorted of a set of whole numbers -/
theorem sorted_of_set {a : Addr} {S : Int → Bool} {n : Nat} {Qv : Value → Shared → Prop} (R : SetR w s.heap a S n) (calm : A.handled = none)
    (end_ : ∀ st p (out : Array Value) (c : Nat) (ns : List Int), (∀ b o, s.heap.get? b = some o → st.heap.get? b = some o) → st.gens = s.gens → st.os = s.os → s.heap.objs.size ≤ p → st.heap.get? p = some (seqObj "list" out c) → IntsAre out.toList ns → ns.Pairwise (· < ·) → (∀ k, k ∈ ns ↔ S k = true) → ns.length = n → Qv (.ref p) st) :
    wpAny (model P w) A (call (.builtin "sorted") [.ref a]) Qv E s := by
  obtain ⟨o, es, ep, t, ho, hex, hd, g, nd, hm, hb, hf, hn, hr, hl⟩ := R -- what a set's object is
  refine Calls.call_function_entry kind_sorted plain_sorted entry_sorted (args_sorted1 _) ?_ -- called
  unfold Builtin.«sorted»
  refine wpAny_bind (m := checkCount "sorted" 1 1 _) (wpAny_pure (wpAny_bind (collect_set (A := A.in1) calm ⟨o, ho, hex.1, hd⟩ hf hb hr hl fun s1 vs k1 hz g1 o1 pm => ?_)))
  have long : vs.length ≤ sizeLine := by
    rw [pm.length_eq, List.length_map, Array.length_toList]
    exact fits_of_scanBound hb
  have isI := ints_of vs fun v hv => by
    obtain ⟨e, he, q⟩ := List.mem_map.mp (pm.mem_iff.mp hv)
    obtain ⟨k, tk, h1, _⟩ := g e he
    exact ⟨k, tk, by rw [← q]; exact h1⟩
  have keys : (vs.map Builtin.Re.reRawOf).Perm (es.toList.map keyOf) := by
    have q := pm.map Builtin.Re.reRawOf
    rwa [List.map_map] at q
  refine wpAny_bind (wpAny_newList ?_ long)
  have new1 : (s1.heap.push (seqObj "list" vs.toArray 0)).get? s1.heap.objs.size = some (seqObj "list" vs.toArray 0) := Heap.get?_push_size _ rfl
  refine wpAny_bind (wpAny_holding (wpAny_call_entry slot_list_sort ⟨_, new1, rfl⟩ entry_list_sort (SrtO.list_sort_ord SrtO.swo_int new1 long (fun two => SrtO.ints_sortable isI two) fun out w1 w2 => ⟨_, rfl, ?_⟩) (args_list_sort _)))
  obtain ⟨i1, i2, i3⟩ := SrtO.ints_out isI w1 w2
  obtain ⟨c, hc⟩ := sortedHeap_at (vs := vs) (out := out.toArray) new1
  have pn := i2.trans keys
  refine wpAny_pure ⟨_, rfl, end_ _ s1.heap.objs.size out.toArray c _ (fun b u e => ?_) g1 o1 hz hc i1 (lt_of_le_nodup _ i3 (pn.nodup_iff.mpr nd)) (fun k => by rw [pn.mem_iff, ← hm k]) (by rw [pn.length_eq, List.length_map, Array.length_toList]; exact hn)⟩
  have q := k1 b u e
  have lt := Heap.lt_size q
  show (sortedHeap (s1.heap.push (seqObj "list" vs.toArray 0)) s1.heap.objs.size vs out.toArray).get? b = some u
  rw [sortedHeap_old (Nat.ne_of_lt lt) (by rw [size_push']; exact Nat.lt_succ_of_lt lt)]
  exact Heap.get?_push_of_some _ q
end
/-- sorted(set(xs)) -/
def tSortedSet (K : PySem.W.Frag) (ta : TE) : TE := fun σ H Q => ta σ H fun x H1 => ∃ (l : Addr) (ns : List Int), x = .ref l ∧ SqL K H1 l (ns.map V.int) ∧ ns.length ≤ 4000 ∧ ∀ (ms : List Int) (p : Addr), ms.Pairwise (· < ·) → (∀ k, k ∈ ms ↔ k ∈ ns) → H1 p = none → Q (.ref p) (upd H1 p (.lst (ms.map V.int)))
theorem pe_sortedSet {X : Cx} {a : Expr} {ta : TE} {p p2 q pos : Pos} (hg : Gl X "sorted") (hm : X.mg "sorted" = none) (hg2 : Gl X "set") (hm2 : X.mg "set" = none) (ha : PE X a ta) (hc : X.calm = true := by rfl)
    (na : starEach [a] X.env = (false, eval a X.env) :: starEach [] X.env := by rfl) : PE X (.Call (.Name "sorted" p) [.Call (.Name "set" p2) [a] [] q] [] pos) (tSortedSet X.K ta) := by
  refine ⟨fun pins s σ H Q I h => Call_ (ld_blt I hg hm boot_sorted ?_)⟩
  refine PyProof.Rows.callWith_builtin1 (PyProof.Rows.args_cons (Call_ (ld_blt I hg2 hm2 boot_set ?_)) rfl) rfl rfl
  refine PyProof.Rows.callWith_type1 (PyProof.Rows.args_cons (thn (ha.run pins s σ H _ I h) fun v s1 ⟨x, H1, I1, r1, q1⟩ => PyProof.Rows.args_nil ?_) na) na rfl -- set(..)
  obtain ⟨l, ns, rfl, sq, few, q1⟩ := q1
  cases r1
  obtain ⟨its, r, pl, hz⟩ := I1.list sq
  refine set_from_list ns (I1.ok.hd hc) pl.isList (by simpa using RZ.intsAre_vals r) (by unfold scanBound; omega) fun hp' tk c hS le kept => PyProof.Rows.args_nil ?_
  have I2 : Inv X pins σ H1 { s1 with heap := hp', toks := tk } := I1.kept kept
  refine sorted_of_set (s := { s1 with heap := hp', toks := tk }) hS (I1.ok.hd hc) fun st p out c' ms k g o hp hg' isI up mem cnt => ?_
  have len : (ms.map V.int).length ≤ sizeLine := by
    rw [List.length_map, sizeLine_eq]
    omega
  have new : H1 p = none := I2.hok.fresh hp
  have J : Inv X pins σ (upd H1 p (.lst (ms.map V.int))) { ({ s1 with heap := hp', toks := tk } : Shared) with heap := st.heap, gens := st.gens, drawn := st.drawn, toks := st.toks } :=
    I2.call (ch := []) (Un.laid k hp new) (I2.hok.laid k hp ⟨len, out.toList, c', vals_of_ints isI, hg'⟩) (by rw [g]; exact I2.bare) (fun _ z => nomatch z)
  have e : st = { s1 with heap := st.heap, gens := st.gens, drawn := st.drawn, toks := st.toks } := by
    cases st
    cases s1
    cases o
    rfl
  rw [e]
  exact ⟨.ref p, _, J, rfl, q1 ms p up (fun k => ⟨fun z => of_decide_eq_true ((mem k).mp z), fun z => (mem k).mpr (decide_eq_true z)⟩) new⟩

/-! ### numbers as a set -/
abbrev sLSet : Stmt := topS 37
theorem scLSet : FnScope ["_law_numbers_here", "_law_found", "_law_number"] ["_law_numbers_here"] (defScope sLSet) := ⟨rfl, rfl, rfl, by decide +kernel, rfl, by decide +kernel, by decide +kernel⟩
def spLSetN : Sp := fun vs H Q _ => ∃ (a : Addr) (ns : List Int), vs = [.ref a] ∧ H a = some (.lst (ns.map V.int)) ∧ ns.length ≤ 900 ∧ TellS (fun n => n ∈ ns) ns.length H Q
def ppL (ns : List Int) : List (Int × Int) := ns.map fun n => (n, n)
theorem ppL_in {ns : List Int} {n : Int} : InS (ppL ns) n ↔ n ∈ ns := by
  constructor
  · rintro ⟨p, hp, e1, e2⟩
    obtain ⟨m, hm, rfl⟩ := List.mem_map.mp hp
    have e1' : m ≤ n := e1
    have e2' : n ≤ m := e2
    obtain rfl : n = m := by omega
    exact hm
  · exact fun h => ⟨(n, n), List.mem_map.mpr ⟨n, h, rfl⟩, Int.le_refl _, Int.le_refl _⟩
/-- between two turns -/
def LSetNW (H : Hp) (a m' g : Addr) (ms : List Int) (i : Nat) (σ : L2.St) (H4 : Hp) : Prop := ∃ (us : List V) (rs : List (Int × Int)) (y2 : Option V), σ = [some (.ref a), some (.ref m'), y2] ∧ Same H H4 ∧ H4 g = some (.lst (ms.map V.int)) ∧ H4 m' = some (.lst us) ∧ Prs H4 us rs ∧ Mrg (ppL (ms.take i)) rs
theorem set_last {ms' : List V} {T0 T2 : Addr} : ixN (ms' ++ [V.ref T0]).length (-1) = some ms'.length ∧ (ms' ++ [V.ref T0]).set ms'.length (.ref T2) = ms' ++ [.ref T2] := by
  constructor
  · unfold ixN
    rw [if_neg (by decide), List.length_append, if_pos (by show -((ms'.length + 1 : Nat) : Int) ≤ -1; omega)]
    show some ((-1 : Int) + ((ms'.length + 1 : Nat) : Int)).toNat = _
    congr 1
    omega
  · simp
section
variable {K : PySem.W.Frag} {mg : Str → Option Value} {P : Program} {w : World} {base : Heap}
theorem ok_LSet {f : Addr} {fd : FuncData} (F : Fun K "_law_set" "_law_set" sLSet f fd) (m_sorted : mg "sorted" = none) (m_set : mg "set" = none) : FnOk P w K mg base CX0 1 f fd ["_law_numbers_here"] spLSetN := by
  refine F.ok scLSet (fun vs H Q E h => ?_) (fun cdv A outer s H vs Q E hr h => ?_)
  · obtain ⟨a, ns, rfl, _⟩ := h
    rfl
  · obtain ⟨a, ns, rfl, ea, hz, q⟩ := h
    refine ⟨_, pss_cons (ps_set (i := 1) scLSet.nd rfl (.inl rfl) (pe_lst pa_nil))
      (pss_cons (ps_for PassesOwn.never rfl (pi_list (pe_sortedSet (by rfl) m_sorted (by rfl) m_set (pv 0))) (pg_name (i := 2) scLSet.nd rfl (.inl rfl))
        (pss_one (ps_if (PW.pt (pw_and (pt_cmpR (op_neD hr.units) (pv 1) (pe_lst pa_nil) (nomark _)) (pw_and1 (pt_cmpR op_eq (pe_op op_add (pe_ix ix_tup (pe_ix ix_list (pv 1) (pe_un un_neg pe_int) (fun _ _ => rfl)) pe_int (fun _ _ => rfl)) pe_int) (pv 2) (nomark _))))) (pss_one (ps_asg (pe_tup (pa_cons (pe_ix ix_tup (pe_ix ix_list (pv 1) (pe_un un_neg pe_int) (fun _ _ => rfl)) pe_int (fun _ _ => rfl)) (pa_cons (pv 2) pa_nil))) (pg_sub (pv 1) (pe_un un_neg pe_int) set_list)))
          (pss_one (ps_expr (pe_bm PySem.F.plainAttrs_list PySem.F.slot_list_append PySem.F.type_list_append mt_append (pv 1) (pa_cons (pe_tup (pa_cons (pv 2) (pa_cons (pv 2) pa_nil))) pa_nil)))))))
      (pss_one (ps_ret (pv 1)))), ?_⟩
    refine ⟨Nat.zero_le _, fun m' nm => ?_⟩
    have s1 := same_upd (o := .lst []) nm
    have em1 : upd H m' (.lst []) m' = some (.lst []) := upd_same
    revert s1 em1
    generalize upd H m' (.lst []) = H1
    intro s1 em1
    refine ⟨_, rfl, a, ns, rfl, SqL.of (s1 _ _ ea), by omega, fun ms g up mem ng => ?_⟩
    have sg := same_upd (o := .lst (ms.map V.int)) ng
    have s3 := s1.trans sg
    have nmg : m' ≠ g := ne_of_none em1 ng
    have hml : ms.length ≤ ns.length := nodup_len (up.imp fun {x y} (h : x < y) => by omega) fun k hk => (mem k).mp hk
    refine ⟨g, rfl, ⟨_, SqL.of upd_same⟩, for_list (xs := ms.map V.int) (LSetNW H a m' g ms) ⟨[], [], _, rfl, s3, upd_same, sg _ _ em1, Prs.nil, Mrg.nil⟩ (fun i σ H4 _ hP => ?_) (fun i x σ H4 hx hP => ?_) (fun σ H4 hP => ?_)⟩
    · obtain ⟨_, _, _, rfl, _, e, _⟩ := hP
      exact SqL.of e
    · obtain ⟨us, rs, y2, rfl, sm4, eg4, em4, hus, m⟩ := hP
      obtain ⟨n, en, rfl⟩ : ∃ n, ms[i]? = some n ∧ x = .int n := by
        rw [List.getElem?_map] at hx
        cases h : ms[i]? with
        | none => rw [h] at hx; cases hx
        | some n => rw [h] at hx; exact ⟨n, rfl, (Option.some.inj hx).symm⟩
      have hi : i < ms.length := (List.getElem?_eq_some_iff.mp en).1
      have et : ppL (ms.take (i + 1)) = ppL (ms.take i) ++ [(n, n)] := by
        unfold ppL
        rw [List.take_add_one, en, List.map_append]
        rfl
      have low : ∀ y ∈ ms.take i, y < n := fun y hy => by
        obtain ⟨j, hj, e⟩ := List.getElem_of_mem hy
        rw [List.length_take] at hj
        rw [List.getElem_take] at e
        obtain ⟨_, e2⟩ := List.getElem?_eq_some_iff.mp en
        rw [← e, ← e2]
        exact List.pairwise_iff_getElem.mp up j i (by omega) hi (by omega)
      have ord : ∀ p ∈ ppL (ms.take i), p.1 ≤ n := fun p hp => by
        obtain ⟨y, hy, rfl⟩ := List.mem_map.mp hp
        exact Int.le_of_lt (low y hy)
      have hul : us.length ≤ 900 := by
        have := m.len
        unfold ppL at this
        rw [List.length_map, List.length_take] at this
        rw [hus.1]
        omega
      refine ⟨_, rfl, Nat.zero_le _, fun z nz => ?_⟩
      have sz := same_upd (o := .lst []) nz
      refine ⟨_, _, .lst (SqL.of (sz _ _ em4)) (dp_prs (hus.same sz)), .lst (SqL.of upd_same) .nil, shaped_prs rs, shaped_ints [], ?_⟩
      rw [eqv_pr_nil]
      have sm5 := sm4.trans sz
      have eg5 := sz _ _ eg4
      have em5 := sz _ _ em4
      have hus5 := hus.same sz
      revert sm5 eg5 em5 hus5
      generalize upd H4 z (.lst []) = H5
      intro sm5 eg5 em5 hus5
      have grow : ∀ (T2 : Addr) (p2 : Int × Int) (us2 : List V) (rs2 : List (Int × Int)), H5 T2 = none → Prs (upd H5 T2 (.tup [.int p2.1, .int p2.2])) us2 rs2 → Mrg (ppL (ms.take (i + 1))) rs2 → LSetNW H a m' g ms (i + 1) [some (.ref a), some (.ref m'), some (.int n)] (upd (upd H5 T2 (.tup [.int p2.1, .int p2.2])) m' (.lst us2)) := by
        intro T2 p2 us2 rs2 n2 h2 m2
        have st := same_upd (o := .tup [.int p2.1, .int p2.2]) n2
        have em6 := st _ _ em5
        refine ⟨us2, rs2, _, rfl, fun b o e => ?_, ?_, upd_same, h2.upd_lst em6, m2⟩
        · rw [upd_ne (ne_of_none e nm)]
          exact st _ _ (sm5 _ _ e)
        · rw [upd_ne nmg.symm]
          exact st _ _ eg5
      have app : (∀ r ∈ rs, r.2 + 2 ≤ n) → (tDrop (tBM K "list" rAppend (tVar 1) (tCons (tTup (tCons (tVar 2) (tCons (tVar 2) tNil))) tNil))) { nx := LSetNW H a m' g ms (i + 1), rt := fun _ _ => False } [some (.ref a), some (.ref m'), some (.int n)] H5 := by
        intro far
        refine ⟨.ref m', rfl, .inl ⟨rfl, _, SqL.of em5⟩, _, rfl, _, rfl, (by show 2 ≤ sizeLine; decide), fun T2 n2 => ?_⟩
        have st := same_upd (o := .tup [.int n, .int n]) n2
        exact ⟨m', _, _, rfl, rfl, st _ _ em5, small1000 (by omega), grow T2 (n, n) (us ++ [.ref T2]) (rs ++ [(n, n)]) n2 ((hus5.same st).snoc upd_same) (by rw [et]; exact m.new (Int.le_refl _) ord far)⟩
      have below : ∀ r ∈ rs, r.2 < n := fun r hr => by
        obtain ⟨lo, hR⟩ := m.ris
        have h2 := (hR.le r hr).2
        have : InS (ppL (ms.take i)) r.2 := (m.same r.2).mp ⟨r, hr, h2, Int.le_refl _⟩
        exact low _ (ppL_in.mp this)
      rcases snoc_cases rs with e0 | ⟨rs', ⟨lo, hi'⟩, e0⟩
      · refine ⟨false, (by rw [e0]; rfl), iteF (iteF ?_)⟩
        exact app (by rw [e0]; exact fun _ z => nomatch z)
      · subst e0
        obtain ⟨us', T0, rfl, eT0, hus'⟩ := hus5.last
        have hb : hi' < n := below (lo, hi') (List.mem_append_right _ (List.mem_singleton.mpr rfl))
        refine ⟨true, (by simp), iteT ?_⟩
        refine ⟨.ref m', rfl, 1, rfl, m', _, -1, .ref T0, rfl, rfl, SqL.of em5, atI_last _ _, T0, _, 1, .int hi', rfl, rfl, .inl (.inl eT0), atI_nat (j := 1) rfl, hi', 1, rfl, rfl, _, rfl, rfl, _, rfl, ite2 (fun c => ?_) (fun c => ?_)⟩
        · have c' : hi' + 1 = n := V.int.inj (of_decide_eq_true c)
          refine ⟨_, rfl, 1, rfl, m', _, -1, .ref T0, rfl, rfl, SqL.of em5, atI_last _ _, T0, _, 0, .int lo, rfl, rfl, .inl (.inl eT0), atI_nat (j := 0) rfl, _, rfl, (by show 2 ≤ sizeLine; decide), fun T2 n2 => ?_⟩
          have st := same_upd (o := .tup [.int lo, .int n]) n2
          refine ⟨.ref m', rfl, 1, rfl, m', _, -1, us'.length, rfl, rfl, st _ _ em5, (set_last (T2 := T2)).1, ?_⟩
          rw [set_last.2]
          have mj := m.join (p := (n, n)) (Int.le_refl _) ord (show n ≤ hi' + 1 by omega)
          rw [if_pos (show n > hi' from hb), ← et] at mj
          exact grow T2 (lo, n) (us' ++ [.ref T2]) (rs' ++ [(lo, n)]) n2 ((hus'.same st).snoc upd_same) mj
        · have c' : ¬ hi' + 1 = n := fun z => c (decide_eq_true (congrArg V.int z))
          refine app fun r hr' => ?_
          obtain ⟨lo', hR⟩ := m.ris
          obtain ⟨_, h2, _, h4⟩ := Ris.front hR
          have h4' : lo ≤ hi' := h4
          rcases List.mem_append.mp hr' with y | y
          · have : r.2 + 2 ≤ lo := h2 r y
            omega
          · rw [List.mem_singleton.mp y]
            show hi' + 2 ≤ n
            omega
    · obtain ⟨us, rs, y2, rfl, sm4, eg4, em4, hus, m⟩ := hP
      rw [List.length_map, List.take_length] at m
      refine ⟨_, rfl, q m' rs H4 nm ⟨us, em4, hus⟩ ⟨m.ris, fun n => ?_⟩ ?_ sm4⟩
      · exact (m.same n).trans (ppL_in.trans (mem n))
      · have := m.len
        unfold ppL at this
        rw [List.length_map] at this
        omega
end

abbrev sNames : Stmt := topS 36
theorem scNames : FnScope ["_law_state", "_law_many", "_law_letters", "_law_found", "_law_k", "_law_ahead", "_law_first"] ["_law_state", "_law_many"] (defScope sNames) := ⟨rfl, rfl, rfl, by decide +kernel, rfl, by decide +kernel, by decide +kernel⟩
/-- names: letters, no two alike -/
def NamesOk (xs : List Str) : Prop := xs.Nodup ∧ ∀ x ∈ xs, ∃ cs : List Nat, x = SX.S cs ∧ 1 ≤ cs.length ∧ cs.length ≤ 8 ∧ ∀ ch ∈ cs, 97 ≤ ch ∧ ch ≤ 122
def spNamesB : Sp := fun vs H Q _ => ∃ (d c : Addr) (t m : Int), vs = [.ref d, .int m] ∧ StAt H d c t ∧ t + 100 < 2 ^ 60 ∧ 0 ≤ m ∧ m ≤ 20 ∧
  ∀ (l : Addr) (xs : List Str) (t' : Int) H', H l = none → H' l = some (.lst (xs.map V.str)) → (xs.length : Int) = m → NamesOk xs → t ≤ t' → t' ≤ t + 30 → StAt H' d c t' → Kp d c H H' → Q (.ref l) H'
abbrev abcS : Str := "abcdefghijklmnopqrstuvwxyz"
theorem abc_at {r : Int} (h0 : 0 ≤ r) (h1 : r < 26) : atI abcS.cps.toList r = some (97 + r.toNat) := by
  obtain ⟨j, rfl⟩ := Int.eq_ofNat_of_zero_le h0
  have h : ∀ j : Nat, j < 26 → abcS.cps.toList[j]? = some (97 + j) := by decide +kernel
  rw [atI_nat (h j (by omega))]
  rfl
/-- each name is some letters and the letter of its turn -/
def Endings (fi : Int) (xs : List Str) : Prop := ∀ (k : Nat) x, xs[k]? = some x → ∃ cs : List Nat, x = SX.S (cs ++ [97 + ((fi + 7 * (k : Int)) % 26).toNat]) ∧ cs.length ≤ 7 ∧ ∀ ch ∈ cs, 97 ≤ ch ∧ ch ≤ 122
theorem Endings.ok {fi : Int} {xs : List Str} (h : Endings fi xs) (hl : xs.length ≤ 20) : NamesOk xs := by
  constructor
  · refine List.pairwise_iff_getElem.mpr fun i j hi hj hij ex => ?_
    obtain ⟨c1, e1, _⟩ := h i xs[i] (List.getElem?_eq_getElem hi)
    obtain ⟨c2, e2, _⟩ := h j xs[j] (List.getElem?_eq_getElem hj)
    rw [e1, e2] at ex
    have ec := SX.S_inj ex
    have el := (List.append_inj' ec rfl).2
    have e3 : 97 + ((fi + 7 * (i : Int)) % 26).toNat = 97 + ((fi + 7 * (j : Int)) % 26).toNat := (List.cons.inj el).1
    omega
  · intro x hx
    obtain ⟨k, hk, ek⟩ := List.getElem_of_mem hx
    obtain ⟨cs, e, hc, hs⟩ := h k x (by rw [List.getElem?_eq_getElem hk, ek])
    refine ⟨_, e, by rw [List.length_append]; exact Nat.le_add_left 1 _, by rw [List.length_append]; exact Nat.succ_le_succ hc, fun ch hch => ?_⟩
    rcases List.mem_append.mp hch with z | z
    · exact hs ch z
    · rw [List.mem_singleton.mp z]
      omega
section
variable {K : PySem.W.Frag} {mg : Str → Option Value} {P : Program} {w : World} {base : Heap}
theorem ok_Names {f : Addr} {fd : FuncData} (F : Fun K "_law_names" "_law_names" sNames f fd) (C__law_take : Cal P w K mg base 1 "_law_take" ["_law_state", "_law_many"] spTake) (m_range : mg "range" = none) (m_len : mg "len" = none) : FnOk P w K mg base CX0 2 f fd ["_law_state", "_law_many"] spNamesB := by
  refine F.ok scNames (fun vs H Q E h => ?_) (fun cdv A outer s H vs Q E hr h => ?_)
  · obtain ⟨d, c, t, m, rfl, _⟩ := h
    rfl
  · obtain ⟨d, c, t, m, rfl, hS, ht, m0, m1, q⟩ := h
    refine ⟨_, pss_cons (ps_asg (pe_tup (pa_cons pe_str (pa_cons (pe_lst pa_nil) pa_nil))) (pg_tup rfl (pgs_cons (pg_name (i := 2) scNames.nd rfl (.inr rfl)) (pgs_cons (pg_name (i := 3) scNames.nd rfl (.inl rfl)) pgs_nil))))
      (pss_cons (ps_set (i := 5) scNames.nd rfl (.inl rfl) (pe_join pe_str (pe_lc (own := [("_law_k", 4)]) (g := (gName 4)) (tt := tYes) (te := (tOp (L2.rIxS) (tVar 2) (tCall spTake [] E0 (tCons (tVar 0) (tCons (tC (.int 26)) tNil))))) rfl scNames.nd (pi_range1 rfl m_range (pa_cons (pe_own C__law_take hr (by rfl) (pa_cons (pv 0) (pa_cons pe_int pa_nil))) pa_nil)) (blkOk_by (own := [("_law_k", 4)]) (N := ["_law_state", "_law_many", "_law_letters", "_law_found", "_law_k", "_law_ahead", "_law_first"]) (sc := defScope sNames) (by decide +kernel)) (fun _ _ _ _ _ => (pg_name (i := 4) scNames.nd rfl (.inl rfl))) (fun _ _ _ _ _ => pts_nil) (fun _ _ _ _ _ => (pe_ix ix_str (pv 2) (pe_own C__law_take hr (by rfl) (pa_cons (pv 0) (pa_cons pe_int pa_nil))) (fun _ _ => rfl))))))
      (pss_cons (ps_set (i := 6) scNames.nd rfl (.inl rfl) (pe_own C__law_take hr (by rfl) (pa_cons (pv 0) (pa_cons pe_int pa_nil))))
      (pss_cons (ps_for PassesOwn.never rfl (pi_range1 rfl m_range (pa_cons (pv 1) pa_nil)) (pg_name (i := 4) scNames.nd rfl (.inl rfl))
        (pss_one (ps_expr (pe_bm PySem.F.plainAttrs_list PySem.F.slot_list_append PySem.F.type_list_append mt_append (pv 3) (pa_cons (pe_op op_add_str (pe_slice sl_str (pv 5) po_none (po_some (pe_own C__law_take hr (by rfl) (pa_cons (pv 0) (pa_cons (pe_op op_add (pe_callB call_len_str (by rfl) m_len PySem.boot_len (pa_cons (pv 5) pa_nil)) pe_int) pa_nil))))) (pe_ix ix_str (pv 2) (pe_op op_mod (pe_op op_add (pv 6) (pe_op op_mulW pe_int (pv 4))) pe_int) (fun _ _ => rfl))) pa_nil)))))
      (pss_one (ps_ret (pv 3)))))), ?_⟩
    refine ⟨Nat.zero_le _, fun l nl => ⟨(by show 2 ≤ sizeLine; decide), fun T nT => ?_⟩⟩
    have sl := same_upd (o := .lst []) nl
    have sT := same_upd (o := .tup [.str abcS, .ref l]) nT
    have s1 := sl.trans sT
    have el1 := sT _ _ (upd_same (H := H) (a := l) (o := .lst []))
    have eT1 : upd (upd H l (.lst [])) T (.tup [.str abcS, .ref l]) T = some (.tup [.str abcS, .ref l]) := upd_same
    revert s1 el1 eT1
    generalize upd (upd H l (.lst [])) T (.tup [.str abcS, .ref l]) = H1
    intro s1 el1 eT1
    refine ⟨T, _, rfl, .inl (.inl eT1), rfl, _, _, rfl, _, _, rfl, rfl, ?_⟩
    have hS1 := hS.same s1
    -- the letters ahead
    refine ⟨⟨_, rfl⟩, _, rfl, d, c, t, 8, rfl, hS1, by omega, by decide, by decide, fun r H2 r0 r1 hS2 k2 => ?_⟩
    have off1 := hS.off nl
    have el2 := k2 _ _ off1.1 off1.2 el1
    refine ⟨r, rfl, by omega, by omega, fun D nD => lc_draw (α := Nat) (fun ch => .str (sgS ch)) (fun _ ch => 97 ≤ ch ∧ ch ≤ 122) 1 (walk_range (lo := 0) (n := r.toNat)) hS2 nD (by omega) (fun _ _ => trivial) (fun i x Hx Hx' t' Kt Kn hi u0 u1 hSx kx hy k => ?_) (fun H3 t3 cs hcl hcs u0 u1 hS3 k3 hD => ?_)⟩
    · obtain ⟨rfl, rfl⟩ := hy
      refine ⟨rfl, _, rfl, _, rfl, d, c, t', 26, rfl, hSx, by omega, by decide, by decide, fun r2 H4 r20 r21 hS4 k4 => ?_⟩
      exact ⟨_, r2, _, rfl, rfl, (by show abcS.length ≤ sizeLine; decide +kernel), abc_at r20 r21, k _ _ _ H4 (by omega) (.str _) (by omega) (by omega) hS4 k4⟩
    obtain ⟨_, ws, e, _, eD, hws⟩ := hD.list
    cases e
    have ews : ws = (cs.map sgS).map V.str := (EchN.strs (ns := cs.map sgS) (by rw [List.map_map]; exact hws))
    subst ews
    have hcl8 : cs.length ≤ 7 := by omega
    have hcs' : ∀ ch ∈ cs, 97 ≤ ch ∧ ch ≤ 122 := fun ch hch => by
      obtain ⟨i, hi, e⟩ := List.getElem_of_mem hch
      exact hcs i ch (by rw [List.getElem?_eq_getElem hi, e])
    refine ⟨_, D, cs.map sgS, rfl, rfl, .inl (SqL.of eD), join_fits (by omega), ?_⟩
    rw [join_signs]
    have el3 := k3 _ _ off1.1 off1.2 el2
    have k13 := k2.trans k3
    -- the first letter
    refine ⟨_, rfl, d, c, t3, 26, rfl, hS3, by omega, by decide, by decide, fun fi H4 fi0 fi1 hS4 k4 => ?_⟩
    have el4 := k4 _ _ off1.1 off1.2 el3
    refine ⟨_, rfl, m, rfl, by omega, by omega, for_range (n := m.toNat) (fun i σ Hx => ∃ (t' : Int) (xs : List Str) (y4 : Option V), σ = [some (.ref d), some (.int m), some (.str abcS), some (.ref l), y4, some (.str (SX.S cs)), some (.int fi)] ∧ Hx l = some (.lst (xs.map V.str)) ∧ xs.length = i ∧ Endings fi xs ∧ t3 + 1 ≤ t' ∧ t' ≤ t3 + 1 + i ∧ StAt Hx d c t' ∧ Kp d c H Hx)
      ⟨t3 + 1, [], _, rfl, el4, rfl, (fun _ _ e => nomatch e), by omega, by omega, hS4, ((Kp.same d c s1).trans k13).trans k4⟩ (fun i σ Hx hi hP => ?_) (fun σ Hx hP => ?_)⟩
    · obtain ⟨t', xs, y4, rfl, el, hxl, hend, u0', u1', hSx, kx⟩ := hP
      refine ⟨_, rfl, .inl ⟨rfl, _, SqL.of el⟩, ?_⟩
      refine ⟨_, rfl, _, rfl, _, rfl, _, rfl, S_le (by omega), _, 1, rfl, rfl, d, c, t', (cs.length : Int) + 1, by rw [SX.S_len]; rfl, hSx, by omega, by omega, by omega, fun r5 H5 r50 r51 hS5 k5 => ?_⟩
      obtain ⟨j5, rfl⟩ := Int.eq_ofNat_of_zero_le r50
      have el5 := k5 _ _ off1.1 off1.2 el
      refine ⟨_, rfl, _, rfl, S_le (by omega), ?_⟩
      rw [cutS_take]
      have z0 : (0 : Int) + (i : Int) = (i : Int) := Int.zero_add _
      rw [z0]
      refine ⟨_, rfl, _, rfl, _, rfl, 7, (i : Int), rfl, rfl, mulw (by decide) (by omega), fi, _, rfl, rfl, _, 26, rfl, rfl, (show (0 : Int) < 26 by decide), _, _, _, rfl, rfl, (by show abcS.length ≤ sizeLine; decide +kernel), abc_at (Int.emod_nonneg _ (by decide)) (Int.emod_lt_of_pos _ (by decide)), ?_⟩
      have hct : (cs.take j5).length ≤ 7 := by rw [List.length_take]; omega
      refine ⟨_, _, rfl, rfl, ?_, ?_⟩
      · rw [SX.S_len]
        show (cs.take j5).length + 1 ≤ sizeLine
        exact Nat.le_trans (show _ ≤ 10 by omega) (by decide)
      have ecat : SX.S (cs.take j5) ++ (⟨#[97 + ((fi + 7 * (i : Int)) % 26).toNat]⟩ : Str) = SX.S (cs.take j5 ++ [97 + ((fi + 7 * (i : Int)) % 26).toNat]) := SX.S_cat _ _
      rw [ecat]
      refine ⟨l, _, _, rfl, rfl, el5, small1000 (by rw [List.length_map]; omega), ?_⟩
      refine ⟨t' + 1, xs ++ [SX.S (cs.take j5 ++ [97 + ((fi + 7 * (i : Int)) % 26).toNat])], _, rfl, by rw [upd_same, List.map_append]; rfl, by rw [List.length_append, hxl]; rfl, fun k x e => ?_, by omega, by omega, hS5.upd off1.1 off1.2, fun b o b1 b2 e => ?_⟩
      · by_cases hk : k < xs.length
        · rw [List.getElem?_append_left hk] at e
          exact hend k x e
        · rw [List.getElem?_append_right (by omega)] at e
          have hk1 : k - xs.length < 1 := (List.getElem?_eq_some_iff.mp e).1
          obtain rfl : k = i := by omega
          rw [hxl, Nat.sub_self] at e
          cases e
          exact ⟨_, rfl, hct, fun ch hch => hcs' ch (List.mem_of_mem_take hch)⟩
      · rw [upd_ne (ne_of_none e nl)]
        exact k5 b o b1 b2 (kx b o b1 b2 e)
    · obtain ⟨t', xs, y4, rfl, el, hxl, hend, u0', u1', hSx, kx⟩ := hP
      exact ⟨_, rfl, q l xs t' Hx nl el (by omega) (hend.ok (by omega)) (by omega) (by omega) hSx kx⟩
end

/-! ### either -/
abbrev sEither : Stmt := topS 2
theorem scEither : FnScope ["one", "other"] ["one", "other"] (defScope sEither) := ⟨rfl, rfl, rfl, by decide +kernel, rfl, by decide +kernel, by decide +kernel⟩
def spEither (K : PySem.W.Frag) : Sp := fun vs H Q _ => ∃ (a b : Addr) (ps qs : List (Int × Int)), vs = [.ref a, .ref b] ∧ PrA K H a ps ∧ PrA K H b qs ∧ ps.length + qs.length ≤ 900 ∧ TellS (fun n => InS ps n ∨ InS qs n) (ps.length + qs.length) H Q
section
variable {K : PySem.W.Frag} {mg : Str → Option Value} {P : Program} {w : World} {base : Heap}
theorem ok_either {f : Addr} {fd : FuncData} (F : Fun K "either" "either" sEither f fd) (CO : Cal P w K mg base 1 "set_of" ["pairs"] (spSetOf K)) : FnOk P w K mg base CX0 2 f fd ["one", "other"] (spEither K) := by
  refine F.ok scEither (fun vs H Q E h => ?_) (fun cdv A outer s H vs Q E hr h => ?_)
  · obtain ⟨a, b, ps, qs, rfl, _⟩ := h
    rfl
  · obtain ⟨a, b, ps, qs, rfl, ⟨us, ha, hps⟩, ⟨ws, hb, hqs⟩, hz, q⟩ := h
    refine ⟨_, pss_one (ps_ret (pe_own CO hr (by rfl) (pa_cons (pe_lst (StX.pa_star (pv 0) (StX.pa_star (pv 1) pa_nil))) pa_nil))), ?_⟩
    have el : (us ++ (ws ++ [])).length ≤ 900 := by
      rw [List.append_nil, List.length_append, hps.1, hqs.1]
      exact hz
    refine ⟨_, rfl, a, us, rfl, ha.symm, _, rfl, b, ws, rfl, hb.symm, Nat.le_of_lt (small1000 (Nat.le_trans el (by decide))), fun l nl => ?_⟩
    have sl := same_upd (o := .lst (us ++ (ws ++ []))) nl
    have hp : Prs (upd H l (.lst (us ++ (ws ++ [])))) (us ++ (ws ++ [])) (ps ++ qs) := by
      have z := ((hps.append hqs).same sl)
      rw [List.append_nil] at *
      exact z
    refine ⟨l, _, ps ++ qs, rfl, Sq.list upd_same, hp, by rw [List.length_append]; exact hz, fun l2 w2 rs H2 n2 e2 hrs hset s2 => ?_⟩
    exact q l2 rs H2 (sl.free n2) ⟨_, e2, hrs⟩ (hset.told.cong fun n => inS_append) (by have := hset.len; rwa [List.length_append] at this) (sl.trans s2)
end
/-! ### both_of -/
abbrev sBoth : Stmt := topS 3
theorem scBoth : FnScope ["one", "other", "shared", "at", "to", "first", "last"] ["one", "other"] (defScope sBoth) := ⟨rfl, rfl, rfl, by decide +kernel, rfl, by decide +kernel, by decide +kernel⟩
def spBoth (K : PySem.W.Frag) : Sp := fun vs H Q _ => ∃ (a b : Addr) (ps qs : List (Int × Int)), vs = [.ref a, .ref b] ∧ PrA K H a ps ∧ PrA K H b qs ∧ (∃ lo, Ris lo ps) ∧ (∃ lo, Ris lo qs) ∧ ps.length + qs.length ≤ 900 ∧ TellS (fun n => InS ps n ∧ InS qs n) (ps.length + qs.length) H Q
/-- between two turns -/
def BothW (H : Hp) (a b sh : Addr) (ps qs : List (Int × Int)) (m : Nat) (σ : L2.St) (H1 : Hp) : Prop := ∃ (i j : Nat) (ms : List V) (rs : List (Int × Int)) (y5 y6 : Option V), σ = [some (.ref a), some (.ref b), some (.ref sh), some (.int i), some (.int j), y5, y6] ∧ m = (ps.length - i) + (qs.length - j) ∧ i ≤ ps.length ∧ j ≤ qs.length ∧ Same H H1 ∧
  H1 sh = some (.lst ms) ∧ Prs H1 ms rs ∧ rs.length ≤ i + j ∧ rs ++ bothF (ps.drop i) (qs.drop j) = bothF ps qs
section
variable {K : PySem.W.Frag} {mg : Str → Option Value} {P : Program} {w : World} {base : Heap}
theorem ok_both {f : Addr} {fd : FuncData} {k : Nat} (F : Fun K "both_of" "both_of" sBoth f fd) (ml : mg "len" = none) (mx : mg "max" = none) (mn : mg "min" = none) : FnOk P w K mg base CX0 (k + 1) f fd ["one", "other"] (spBoth K) := by
  refine F.ok scBoth (fun vs H Q E h => ?_) (fun cdv A outer s H vs Q E hr h => ?_)
  · obtain ⟨a, b, ps, qs, rfl, _⟩ := h
    rfl
  · obtain ⟨a, b, ps, qs, rfl, ⟨us, ha, hps⟩, ⟨ws, hb, hqs⟩, ⟨lo, hr1⟩, ⟨lo', hr2⟩, hz, q⟩ := h
    refine ⟨_, pss_cons (ps_set (i := 2) scBoth.nd rfl (.inl rfl) (pe_lst pa_nil))
      (pss_cons (ps_set (i := 3) scBoth.nd rfl (.inl rfl) pe_int)
      (pss_cons (ps_set (i := 4) scBoth.nd rfl (.inl rfl) pe_int)
      (pss_cons (ps_while PassesOwn.never (PW.pt (pw_and (pt_cmpR op_lt (pv 3) (pe_callB call_len_seq (by rfl) ml PySem.boot_len (pa_cons (pv 0) pa_nil)) (nomark _)) (pw_and1 (pt_cmpR op_lt (pv 4) (pe_callB call_len_seq (by rfl) ml PySem.boot_len (pa_cons (pv 1) pa_nil)) (nomark _)))))
        (pss_cons (ps_set (i := 5) scBoth.nd rfl (.inl rfl) (pe_callB (call_max2 rfl) (by rfl) mx (by decide +kernel) (pa_cons (pe_ix ix_tup (pe_ix ix_seq (pv 0) (pv 3) (fun _ _ => rfl)) pe_int (fun _ _ => rfl)) (pa_cons (pe_ix ix_tup (pe_ix ix_seq (pv 1) (pv 4) (fun _ _ => rfl)) pe_int (fun _ _ => rfl)) pa_nil))))
        (pss_cons (ps_set (i := 6) scBoth.nd rfl (.inl rfl) (pe_callB (call_min2 rfl) (by rfl) mn (by decide +kernel) (pa_cons (pe_ix ix_tup (pe_ix ix_seq (pv 0) (pv 3) (fun _ _ => rfl)) pe_int (fun _ _ => rfl)) (pa_cons (pe_ix ix_tup (pe_ix ix_seq (pv 1) (pv 4) (fun _ _ => rfl)) pe_int (fun _ _ => rfl)) pa_nil))))
        (Evl.pss_cut (ps_if (pt_cmpR op_le (pv 5) (pv 6) (nomark _)) (pss_one (ps_expr (pe_bm PySem.F.plainAttrs_list PySem.F.slot_list_append PySem.F.type_list_append mt_append (pv 2) (pa_cons (pe_tup (pa_cons (pv 5) (pa_cons (pv 6) pa_nil))) pa_nil)))) pss_nil)
        (pss_one (ps_if (pt_cmpR op_lt (pe_ix ix_tup (pe_ix ix_seq (pv 0) (pv 3) (fun _ _ => rfl)) pe_int (fun _ _ => rfl)) (pe_ix ix_tup (pe_ix ix_seq (pv 1) (pv 4) (fun _ _ => rfl)) pe_int (fun _ _ => rfl)) (nomark _))
          (pss_one (ps_aug (i := 3) scBoth.nd rfl (.inl rfl) pe_int ip_add)) (pss_one (ps_aug (i := 4) scBoth.nd rfl (.inl rfl) pe_int ip_add))))))))
      (pss_one (ps_ret (pv 2)))))), ?_⟩
    refine ⟨Nat.zero_le _, fun sh nsh => ?_⟩
    have s0 := same_upd (o := .lst []) nsh
    have hl1 := hps.1
    have hl2 := hqs.1
    refine ⟨BothW H a b sh ps qs, ⟨_, 0, 0, [], [], none, none, rfl, rfl, Nat.zero_le _, Nat.zero_le _, s0, upd_same, Prs.nil, Nat.le_refl _, rfl⟩, fun m σ H1 hW => ?_⟩
    obtain ⟨i, j, ms, rs, y5, y6, rfl, rfl, hi, hj, sm, esh, hms, hrl, hbo⟩ := hW
    have ha1 := ha.same sm
    have hb1 := hb.same sm
    -- the end: nothing is left of one
    have fin : bothF (ps.drop i) (qs.drop j) = [] → Q (.ref sh) H1 := by
      intro e
      rw [e, List.append_nil] at hbo
      subst hbo
      exact q sh (bothF ps qs) H1 nsh ⟨ms, esh, hms⟩ ⟨⟨lo, bothF_ris hr1 hr2 (.inl (Int.le_refl _))⟩, fun n => bothF_in hr1 hr2⟩ (by omega) sm
    refine ⟨_, rfl, _, rfl, a, us, rfl, ha1, (i : Int), (us.length : Int), rfl, rfl, _, rfl, ite2 (fun c1 => ?_) (fun c1 => ?_)⟩
    · have c1' := of_decide_eq_true c1
      refine ⟨_, rfl, _, rfl, b, ws, rfl, hb1, (j : Int), (ws.length : Int), rfl, rfl, _, rfl, ite2 (fun c2 => ?_) (fun c2 => ?_)⟩
      · have c2' := of_decide_eq_true c2
        have hi' : i < ps.length := by omega
        have hj' : j < qs.length := by omega
        obtain ⟨T1, g1, e1⟩ := hps.2 i ps[i] (List.getElem?_eq_getElem hi')
        obtain ⟨T2, g2, e2⟩ := hqs.2 j qs[j] (List.getElem?_eq_getElem hj')
        have ed1 := drop_at (List.getElem?_eq_getElem hi')
        have ed2 := drop_at (List.getElem?_eq_getElem hj')
        revert e1 e2 ed1 ed2
        generalize ps[i] = p
        generalize qs[j] = r
        intro e1 e2 ed1 ed2
        have f1 := sm _ _ e1
        have f2 := sm _ _ e2
        rw [ed1, ed2, bothF] at hbo
        refine ⟨fun σ' H' => ∃ m', m' < (ps.length - i) + (qs.length - j) ∧ BothW H a b sh ps qs m' σ' H', fun σ' H' h => h, ?_⟩
        -- first, last
        refine ⟨_, rfl, _, rfl, a, us, i, .ref T1, rfl, rfl, ha1, atI_nat g1, T1, _, 0, .int p.1, rfl, rfl, .inl (.inl f1), atI_nat (j := 0) rfl, _, rfl, _, rfl, b, ws, j, .ref T2, rfl, rfl, hb1, atI_nat g2, T2, _, 0, .int r.1, rfl, rfl, .inl (.inl f2), atI_nat (j := 0) rfl, p.1, r.1, rfl, ?_⟩
        refine ⟨_, rfl, _, rfl, a, us, i, .ref T1, rfl, rfl, ha1, atI_nat g1, T1, _, 1, .int p.2, rfl, rfl, .inl (.inl f1), atI_nat (j := 1) rfl, _, rfl, _, rfl, b, ws, j, .ref T2, rfl, rfl, hb1, atI_nat g2, T2, _, 1, .int r.2, rfl, rfl, .inl (.inl f2), atI_nat (j := 1) rfl, p.2, r.2, rfl, ?_⟩
        refine ⟨fun σ' H2 => ∃ ms2 rs2, σ' = [some (.ref a), some (.ref b), some (.ref sh), some (.int i), some (.int j), some (.int (mxI p.1 r.1)), some (.int (mnI p.2 r.2))] ∧ Same H H2 ∧ H2 sh = some (.lst ms2) ∧ Prs H2 ms2 rs2 ∧ rs2.length ≤ i + j + 1 ∧
          rs2 ++ (if p.2 < r.2 then bothF (ps.drop (i + 1)) (r :: qs.drop (j + 1)) else bothF (p :: ps.drop (i + 1)) (qs.drop (j + 1))) = bothF ps qs, ?_, fun σ' H2 hM => ?_⟩
        · refine ⟨_, rfl, _, rfl, mxI p.1 r.1, mnI p.2 r.2, rfl, rfl, _, rfl, ite2 (fun c => ?_) (fun c => ?_)⟩
          · have c' := of_decide_eq_true c
            rw [if_pos c', ← List.append_assoc] at hbo
            refine ⟨_, rfl, .inl ⟨rfl, _, SqL.of esh⟩, _, rfl, _, rfl, (by show 2 ≤ sizeLine; decide), fun T nT => ?_⟩
            have sT := same_upd (o := .tup [.int (mxI p.1 r.1), .int (mnI p.2 r.2)]) nT
            refine ⟨sh, _, _, rfl, rfl, sT _ _ esh, small1000 (by have := hms.1; omega), ?_⟩
            refine ⟨_, _, rfl, fun b o e => ?_, upd_same, ((hms.same sT).snoc upd_same).upd_lst (sT _ _ esh), by rw [List.length_append]; exact Nat.add_le_add_right hrl 1, hbo⟩
            rw [upd_ne (ne_of_none e nsh)]
            exact sT _ _ (sm b o e)
          · have c' : ¬ mxI p.1 r.1 ≤ mnI p.2 r.2 := fun z => c (decide_eq_true z)
            rw [if_neg c', List.nil_append] at hbo
            exact ⟨ms, rs, rfl, sm, esh, hms, by omega, hbo⟩
        · obtain ⟨ms2, rs2, rfl, sm2, esh2, hms2, hl3, hb3⟩ := hM
          have ha2 := ha.same sm2
          have hb2 := hb.same sm2
          have f1' := sm2 _ _ e1
          have f2' := sm2 _ _ e2
          refine ⟨_, rfl, _, rfl, a, us, i, .ref T1, rfl, rfl, ha2, atI_nat g1, T1, _, 1, .int p.2, rfl, rfl, .inl (.inl f1'), atI_nat (j := 1) rfl, _, rfl, _, rfl, b, ws, j, .ref T2, rfl, rfl, hb2, atI_nat g2, T2, _, 1, .int r.2, rfl, rfl, .inl (.inl f2'), atI_nat (j := 1) rfl, p.2, r.2, rfl, rfl, _, rfl, ite2 (fun c => ?_) (fun c => ?_)⟩
          · have c' := of_decide_eq_true c
            rw [if_pos c', ← ed2] at hb3
            exact ⟨_, rfl, (i : Int), 1, rfl, rfl, _, by omega, i + 1, j, ms2, rs2, _, _, rfl, rfl, by omega, hj, sm2, esh2, hms2, by omega, hb3⟩
          · have c' : ¬ p.2 < r.2 := fun z => c (decide_eq_true z)
            rw [if_neg c', ← ed1] at hb3
            exact ⟨_, rfl, (j : Int), 1, rfl, rfl, _, by omega, i, j + 1, ms2, rs2, _, _, rfl, rfl, hi, by omega, sm2, esh2, hms2, by omega, hb3⟩
      · have c' : ¬ (j : Int) < ws.length := fun z => c2 (decide_eq_true z)
        refine ⟨_, rfl, fin ?_⟩
        rw [List.drop_eq_nil_of_le (by omega : qs.length ≤ j)]
        exact bothF_nil _
    · have c' : ¬ (i : Int) < us.length := fun z => c1 (decide_eq_true z)
      refine ⟨_, rfl, fin ?_⟩
      rw [List.drop_eq_nil_of_le (by omega : ps.length ≤ i), bothF]
end
/-! ### gaps_of -/
abbrev sGaps : Stmt := topS 4
theorem scGaps : FnScope ["some", "begin", "end", "gaps", "start", "first", "last"] ["some", "begin", "end"] (defScope sGaps) := ⟨rfl, rfl, rfl, by decide +kernel, rfl, by decide +kernel, by decide +kernel⟩
def spGaps (K : PySem.W.Frag) : Sp := fun vs H Q _ => ∃ (a : Addr) (qs : List (Int × Int)) (x y : Int), vs = [.ref a, .int x, .int y] ∧ PrA K H a qs ∧ (∃ lo, Ris lo qs) ∧ qs.length ≤ 800 ∧ TellS (fun n => (x ≤ n ∧ n ≤ y) ∧ ¬ InS qs n) (qs.length + 1) H Q
section
variable {K : PySem.W.Frag} {mg : Str → Option Value} {P : Program} {w : World} {base : Heap}
theorem ok_gaps {f : Addr} {fd : FuncData} (F : Fun K "gaps_of" "gaps_of" sGaps f fd) (CO : Cal P w K mg base 1 "set_of" ["pairs"] (spSetOf K)) (mx : mg "max" = none) (mn : mg "min" = none) : FnOk P w K mg base CX0 2 f fd ["some", "begin", "end"] (spGaps K) := by
  refine F.ok scGaps (fun vs H Q E h => ?_) (fun cdv A outer s H vs Q E hr h => ?_)
  · obtain ⟨a, qs, x, y, rfl, _⟩ := h
    rfl
  · obtain ⟨a, qs, x, y, rfl, ⟨ws, hb, hqs⟩, ⟨lo, hr2⟩, hz, q⟩ := h
    refine ⟨_, pss_cons (ps_set (i := 3) scGaps.nd rfl (.inl rfl) (pe_lst pa_nil))
      (pss_cons (ps_set (i := 4) scGaps.nd rfl (.inl rfl) (pv 1))
      (pss_cons (ps_for PassesOwn.never rfl (pi_seq (pv 0)) (pg_tup rfl (pgs_cons (pg_name (i := 5) scGaps.nd rfl (.inl rfl)) (pgs_cons (pg_name (i := 6) scGaps.nd rfl (.inl rfl)) pgs_nil)))
        (pss_cons (ps_expr (pe_bm PySem.F.plainAttrs_list PySem.F.slot_list_append PySem.F.type_list_append mt_append (pv 3) (pa_cons (pe_tup (pa_cons (pv 4) (pa_cons (pe_callB (call_min2 rfl) (by rfl) mn (by decide +kernel) (pa_cons (pe_op op_sub (pv 5) pe_int) (pa_cons (pv 2) pa_nil))) pa_nil))) pa_nil)))
        (pss_one (ps_set (i := 4) scGaps.nd rfl (.inl rfl) (pe_callB (call_max2 rfl) (by rfl) mx (by decide +kernel) (pa_cons (pv 4) (pa_cons (pe_op op_add (pv 6) pe_int) pa_nil)))))))
      (pss_cons (ps_expr (pe_bm PySem.F.plainAttrs_list PySem.F.slot_list_append PySem.F.type_list_append mt_append (pv 3) (pa_cons (pe_tup (pa_cons (pv 4) (pa_cons (pv 2) pa_nil))) pa_nil)))
      (pss_one (ps_ret (pe_own CO hr (by rfl) (pa_cons (pv 3) pa_nil))))))), ?_⟩
    refine ⟨Nat.zero_le _, fun g ng => ?_⟩
    have s0 := same_upd (o := .lst []) ng
    have hl2 := hqs.1
    refine ⟨_, rfl, .ref a, rfl, a, rfl, for_seqS (xs := ws) hb s0 (fun i σ H1 => ∃ (st : Int) (ms : List V) (rs : List (Int × Int)) (y5 y6 : Option V), σ = [some (.ref a), some (.int x), some (.int y), some (.ref g), some (.int st), y5, y6] ∧ Same H H1 ∧ H1 g = some (.lst ms) ∧ Prs H1 ms rs ∧ rs.length = i ∧ rs ++ gapsF y st (qs.drop i) = gapsF y x qs)
      ⟨x, [], [], none, none, rfl, s0, upd_same, Prs.nil, rfl, rfl⟩ (fun i σ H1 hP => ?_) (fun i v σ H1 hv hP => ?_) (fun σ H1 hP => ?_)⟩
    · obtain ⟨_, _, _, _, _, rfl, sm, _⟩ := hP
      exact sm
    · obtain ⟨st, ms, rs, y5, y6, rfl, sm, eg, hms, hrl, hgf⟩ := hP
      obtain ⟨p, T, ep, rfl, eT⟩ := prs_at hqs hv
      have eT1 := sm _ _ eT
      have hi : i < qs.length := (List.getElem?_eq_some_iff.mp ep).1
      rw [drop_at ep, gapsF] at hgf
      refine ⟨T, _, rfl, .inl (.inl eT1), rfl, _, _, rfl, _, _, rfl, rfl, ?_⟩
      refine ⟨_, rfl, .inl ⟨rfl, _, SqL.of eg⟩, _, rfl, _, rfl, p.1, 1, rfl, rfl, _, rfl, p.1 - 1, y, rfl, (by show 2 ≤ sizeLine; decide), fun T2 n2 => ?_⟩
      have sT := same_upd (o := .tup [.int st, .int (mnI (p.1 - 1) y)]) n2
      refine ⟨g, _, _, rfl, rfl, sT _ _ eg, small1000 (by have := hms.1; omega), ?_⟩
      refine ⟨_, rfl, _, rfl, p.2, 1, rfl, rfl, st, p.2 + 1, rfl, mxI st (p.2 + 1), _, rs ++ [(st, mnI (p.1 - 1) y)], _, _, rfl, fun b o e => ?_, upd_same, ((hms.same sT).snoc upd_same).upd_lst (sT _ _ eg), by rw [List.length_append, hrl]; rfl, by rw [List.append_assoc]; exact hgf⟩
      rw [upd_ne (ne_of_none e ng)]
      exact sT _ _ (sm b o e)
    · obtain ⟨st, ms, rs, y5, y6, rfl, sm, eg, hms, hrl, hgf⟩ := hP
      rw [hl2, List.drop_length, gapsF] at hgf
      refine ⟨_, rfl, .inl ⟨rfl, _, SqL.of eg⟩, _, rfl, _, rfl, (by show 2 ≤ sizeLine; decide), fun T2 n2 => ?_⟩
      have sT := same_upd (o := .tup [.int st, .int y]) n2
      refine ⟨g, _, _, rfl, rfl, sT _ _ eg, small1000 (by have := hms.1; omega), ?_⟩
      have hp : Prs (upd (upd H1 T2 (.tup [.int st, .int y])) g (.lst (ms ++ [.ref T2]))) (ms ++ [.ref T2]) (gapsF y x qs) := by
        rw [← hgf]
        exact ((hms.same sT).snoc upd_same).upd_lst (sT _ _ eg)
      have s3 : Same H (upd (upd H1 T2 (.tup [.int st, .int y])) g (.lst (ms ++ [.ref T2]))) := fun b o e => by
        rw [upd_ne (ne_of_none e ng)]
        exact sT _ _ (sm b o e)
      refine ⟨_, rfl, g, _, _, rfl, Sq.list upd_same, hp, by rw [gapsF_length]; omega, fun l2 w2 rs2 H2 nl2 e2 hrs hset s2 => ?_⟩
      exact q l2 rs2 H2 (s3.free nl2) ⟨_, e2, hrs⟩ (hset.told.cong fun n => gapsF_in hr2) (by have := hset.len; rwa [gapsF_length] at this) (s3.trans s2)
end
/-! ### without -/
theorem Ris.upto : ∀ {lo n : Int} {ps : List (Int × Int)} {p : Int × Int}, Ris lo (ps ++ [p]) → InS (ps ++ [p]) n → n ≤ p.2 := by
  intro lo n ps p h e
  obtain ⟨h1, h2, h3, h4⟩ := Ris.front h
  rcases inS_append.mp e with z | z
  · obtain ⟨q, hq, z1, z2⟩ := z
    have := h2 q hq
    omega
  · rcases inS_cons.mp z with y | y
    · exact y.2
    · exact absurd y inS_nil
abbrev sWithout : Stmt := topS 5
theorem scWithout : FnScope ["one", "other"] ["one", "other"] (defScope sWithout) := ⟨rfl, rfl, rfl, by decide +kernel, rfl, by decide +kernel, by decide +kernel⟩
def spWithout (K : PySem.W.Frag) : Sp := fun vs H Q _ => ∃ (a b : Addr) (ps qs : List (Int × Int)), vs = [.ref a, .ref b] ∧ PrA K H a ps ∧ PrA K H b qs ∧ (∃ lo, Ris lo ps) ∧ (∃ lo, Ris lo qs) ∧ ps.length + qs.length ≤ 800 ∧ TellS (fun n => InS ps n ∧ ¬ InS qs n) (ps.length + qs.length + 1) H Q
section
variable {K : PySem.W.Frag} {mg : Str → Option Value} {P : Program} {w : World} {base : Heap}
theorem ok_without {f : Addr} {fd : FuncData} (F : Fun K "without" "without" sWithout f fd) (CA : Cal P w K mg base 1 "both_of" ["one", "other"] (spBoth K)) (CG : Cal P w K mg base 2 "gaps_of" ["some", "begin", "end"] (spGaps K)) : FnOk P w K mg base CX0 3 f fd ["one", "other"] (spWithout K) := by
  refine F.ok scWithout (fun vs H Q E h => ?_) (fun cdv A outer s H vs Q E hr h => ?_)
  · obtain ⟨a, b, ps, qs, rfl, _⟩ := h
    rfl
  · obtain ⟨a, b, ps, qs, rfl, ⟨us, ha, hps⟩, hb, ⟨lo, hr1⟩, hr2, hz, q⟩ := h
    have hr1' := hr.mono (show 1 ≤ 2 by decide)
    refine ⟨_, pss_cons (ps_if (pt_not (pt_truth (pv 0) (by intro _; rfl))) (pss_one (ps_ret (pe_lst pa_nil))) pss_nil)
      (pss_one (ps_ret (pe_own CA hr1' (by rfl) (pa_cons (pv 0) (pa_cons (pe_own CG hr (by rfl) (pa_cons (pv 1) (pa_cons (pe_ix ix_tup (pe_ix ix_seq (pv 0) pe_int (fun _ _ => rfl)) pe_int (fun _ _ => rfl)) (pa_cons (pe_ix ix_tup (pe_ix ix_seq (pv 0) (pe_un un_neg pe_int) (fun _ _ => rfl)) pe_int (fun _ _ => rfl)) pa_nil)))) pa_nil))))), ?_⟩
    have tru : ∀ k, k = (!us.isEmpty) → TruV K (.ref a) H k := fun k e => ha.elim (fun h => .inl ⟨us, h, e⟩) fun h => .inr (.inl ⟨us, h, e⟩)
    rcases snoc_cases ps with e0 | ⟨ps', p, e0⟩
    · have e1 : us = [] := List.eq_nil_of_length_eq_zero (by rw [hps.1, e0]; rfl)
      subst e0 e1
      refine ⟨_, rfl, false, tru _ rfl, iteT ?_⟩
      refine ⟨Nat.zero_le _, fun l nl => ?_⟩
      exact q l [] _ nl (LsA.nil upd_same) ⟨⟨0, True.intro⟩, fun n => ⟨fun z => absurd z inS_nil, fun z => z.1⟩⟩ (Nat.zero_le _) (same_upd nl)
    · subst e0
      obtain ⟨us', T0, eus, eT0, hus'⟩ := hps.last
      have hne : us.isEmpty = false := by rw [eus]; simp
      refine ⟨_, rfl, true, tru _ (by rw [hne]; rfl), iteF ?_⟩
      obtain ⟨p0, ep0⟩ : ∃ p0, (ps' ++ [p])[0]? = some p0 := by
        cases ps' with
        | nil => exact ⟨p, rfl⟩
        | cons x r => exact ⟨x, rfl⟩
      obtain ⟨T, g0, eT⟩ := hps.2 0 p0 ep0
      have glast : atI us (-1) = some (.ref T0) := by rw [eus]; exact atI_last _ _
      refine ⟨_, rfl, _, rfl, _, rfl, a, us, 0, .ref T, rfl, rfl, ha, atI_nat (j := 0) g0, T, _, 0, .int p0.1, rfl, rfl, .inl (.inl eT), atI_nat (j := 0) rfl, _, rfl, 1, rfl, a, us, -1, .ref T0, rfl, rfl, ha, glast, T0, _, 1, .int p.2, rfl, rfl, .inl (.inl eT0), atI_nat (j := 1) rfl, ?_⟩
      refine ⟨b, qs, p0.1, p.2, rfl, hb, hr2, by omega, fun l1 rs1 H1 n1 hl1 ht1 hz1 s1 => ?_⟩
      refine ⟨a, l1, ps' ++ [p], rs1, rfl, (PrA.same ⟨us, ha, hps⟩ s1), hl1.pr, ⟨lo, hr1⟩, ht1.ris, by omega, fun l2 rs2 H2 n2 hl2 ht2 hz2 s2 => ?_⟩
      refine q l2 rs2 H2 (s1.free n2) hl2 (ht2.cong fun n => ?_) (by omega) (s1.trans s2)
      rw [ht1.same n]
      constructor
      · exact fun z => ⟨z.1, z.2.2⟩
      · intro z
        refine ⟨z.1, ⟨?_, Ris.upto hr1 z.1⟩, z.2⟩
        have r0 : Ris p0.1 (ps' ++ [p]) := by
          cases ps' with
          | nil =>
            cases ep0
            exact ⟨Int.le_refl _, hr1.2⟩
          | cons x r =>
            cases ep0
            exact ⟨Int.le_refl _, hr1.2⟩
        exact r0.low z.1
end

/-! ### where each case lies: the mathematics -/
inductive Spt where
  | ly (h : Str)
  | sold
  | back
  | lk (n : Int)
deriving DecidableEq
abbrev Whr := Int → Option Spt
def keyOf : Spt → List L2.Key
  | .ly h => [.inr "lying", .inr h]
  | .sold => [.inr "sold"]
  | .back => [.inr "back"]
  | .lk n => [.inr "lacking", .inl n]
def wdOf : Spt → Str
  | .ly _ => "lying"
  | .sold => "sold"
  | .back => "back"
  | .lk _ => "lacking"
theorem keyOf_head (sp : Spt) : ∃ r, keyOf sp = .inr (wdOf sp) :: r := by cases sp <;> exact ⟨_, rfl⟩
theorem keyOf_inj {a b : Spt} (h : keyOf a = keyOf b) : a = b := by
  have hw : wdOf a = wdOf b := by
    obtain ⟨r, e⟩ := keyOf_head a
    obtain ⟨r', e'⟩ := keyOf_head b
    rw [e, e'] at h
    exact Sum.inr.inj (List.cons.inj h).1
  cases a <;> cases b <;> first
    | rfl
    | (cases h <;> rfl)
def SetAt (W : Whr) (sp : Spt) : Int → Prop := fun n => W n = some sp
/-- it changes at these numbers alone -/
def ChW (E : List Int) (W : Whr) : Prop := ∀ n, n ∉ E → W n = W (n - 1)
def ChP (E : List Int) (p : Int → Prop) : Prop := ∀ n, n ∉ E → (p n ↔ p (n - 1))
theorem ChW.set {E : List Int} {W : Whr} (h : ChW E W) (sp : Spt) : ChP E (SetAt W sp) := fun n hn => by unfold SetAt; rw [h n hn]
theorem ChP.and {E : List Int} {p q : Int → Prop} (h : ChP E p) (h' : ChP E q) : ChP E fun n => p n ∧ q n := fun n hn => and_congr (h n hn) (h' n hn)
theorem ChP.or {E : List Int} {p q : Int → Prop} (h : ChP E p) (h' : ChP E q) : ChP E fun n => p n ∨ q n := fun n hn => or_congr (h n hn) (h' n hn)
theorem ChP.not {E : List Int} {p : Int → Prop} (h : ChP E p) : ChP E fun n => ¬ p n := fun n hn => not_congr (h n hn)
theorem ChP.cong {E : List Int} {p q : Int → Prop} (h : ChP E p) (e : ∀ n, p n ↔ q n) : ChP E q := fun n hn => (e n).symm.trans ((h n hn).trans (e _))
theorem ris_gap1 : ∀ {rs : List (Int × Int)} {lo : Int}, Ris lo rs → (rs.map (·.1)).Nodup ∧ ∀ r ∈ rs, ¬ InS rs (r.1 - 1)
  | [], _, _ => ⟨List.nodup_nil, fun _ z => nomatch z⟩
  | p :: r, lo, h => by
    obtain ⟨h1, h2, h3⟩ := h
    obtain ⟨a, b⟩ := ris_gap1 h3
    have hl := Ris.le h3
    refine ⟨List.nodup_cons.mpr ⟨fun z => ?_, a⟩, fun q hq hi => ?_⟩
    · obtain ⟨q, hq, e⟩ := List.mem_map.mp z
      have e : q.1 = p.1 := e
      have := hl q hq
      omega
    · rcases inS_cons.mp hi with z | z
      · rcases List.mem_cons.mp hq with e | e
        · rw [e] at z; omega
        · have := hl q e
          omega
      · rcases List.mem_cons.mp hq with e | e
        · obtain ⟨x, hx, e1, e2⟩ := z
          have := hl x hx
          rw [e] at e1
          omega
        · exact b q e z
theorem sub_len {α : Type} [DecidableEq α] : ∀ {xs ys : List α}, xs.Nodup → (∀ x ∈ xs, x ∈ ys) → xs.length ≤ ys.length
  | [], _, _, _ => Nat.zero_le _
  | x :: r, ys, h, s => by
    have hx := s x (List.mem_cons_self ..)
    have := sub_len (xs := r) (ys := ys.erase x) (List.nodup_cons.mp h).2 fun y hy => (List.mem_erase_of_ne (fun e : y = x => (List.nodup_cons.mp h).1 (e ▸ hy))).mpr (s y (List.mem_cons_of_mem _ hy))
    rw [List.length_erase_of_mem hx] at this
    have := List.length_pos_of_mem hx
    rw [List.length_cons]
    omega
/-- a set has as many stretches as it changes, at most -/
theorem ChP.few {E : List Int} {p : Int → Prop} {rs : List (Int × Int)} (h : ChP E p) (t : Told p rs) : rs.length ≤ E.length := by
  obtain ⟨lo, hr⟩ := t.ris
  obtain ⟨nd, hg⟩ := ris_gap1 hr
  have := sub_len nd (ys := E) fun x hx => by
    obtain ⟨r, hr', rfl⟩ := List.mem_map.mp hx
    refine Decidable.byContradiction fun hn => ?_
    have h1 : p r.1 := (t.same r.1).mp ⟨r, hr', Int.le_refl _, (Ris.le hr r hr').2⟩
    exact hg r hr' ((t.same _).mpr ((h r.1 hn).mp h1))
  rwa [List.length_map] at this
open Classical in
/-- cases taken away from a spot -/
noncomputable def rmW (W : Whr) (sp : Spt) (p : Int → Prop) : Whr := fun n => if W n = some sp ∧ p n then none else W n
open Classical in
/-- cases laid at a spot -/
noncomputable def ptW (W : Whr) (sp : Spt) (p : Int → Prop) : Whr := fun n => if p n then some sp else W n
theorem ChW.rm {E : List Int} {W : Whr} (h : ChW E W) {sp : Spt} {p : Int → Prop} (hp : ChP E p) : ChW E (rmW W sp p) := fun n hn => by
  unfold rmW
  rw [h n hn, propext (hp n hn)]
theorem ChW.pt {E : List Int} {W : Whr} (h : ChW E W) {sp : Spt} {p : Int → Prop} (hp : ChP E p) : ChW E (ptW W sp p) := fun n hn => by
  unfold ptW
  rw [h n hn, propext (hp n hn)]
theorem ChW.none (E : List Int) : ChW E fun _ => none := fun _ _ => rfl
theorem rm_at {W : Whr} {sp : Spt} {p : Int → Prop} {n : Int} {s : Spt} : rmW W sp p n = some s ↔ W n = some s ∧ ¬ (s = sp ∧ p n) := by
  unfold rmW
  by_cases c : W n = some sp ∧ p n
  · rw [if_pos c]
    refine ⟨(fun z => nomatch z), fun ⟨a, b⟩ => ?_⟩
    rw [c.1] at a
    exact absurd ⟨(Option.some.inj a).symm, c.2⟩ b
  · rw [if_neg c]
    exact ⟨fun h => ⟨h, fun ⟨a, b⟩ => c ⟨a ▸ h, b⟩⟩, fun h => h.1⟩
theorem pt_at {W : Whr} {sp : Spt} {p : Int → Prop} {n : Int} {s : Spt} : ptW W sp p n = some s ↔ (p n ∧ s = sp) ∨ (¬ p n ∧ W n = some s) := by
  unfold ptW
  by_cases c : p n
  · rw [if_pos c]
    exact ⟨fun h => .inl ⟨c, (Option.some.inj h).symm⟩, fun h => h.elim (fun a => congrArg some a.2.symm) fun a => absurd c a.1⟩
  · rw [if_neg c]
    exact ⟨fun h => .inr ⟨c, h⟩, fun h => h.elim (fun a => absurd a.1 c) fun a => a.2⟩
/-! ### what a page says -/
inductive Deed where
  | pack (name : Str) (many : Int) (holder : Str)
  | lade (one other name : Str) (first last : Int)
  | sell (holder name : Str) (first last : Int)
  | back (holder name : Str) (first last : Int)
  | tell (holder name : Str) (told : List (Int × Int))
def Deed.nam : Deed → Str
  | .pack n _ _ => n
  | .lade _ _ n _ _ => n
  | .sell _ n _ _ => n
  | .back _ n _ _ => n
  | .tell _ n _ => n
/-- its numbers are among E, its spots among SP -/
def Deed.Fit (E : List Int) (SP : List Spt) (num : Int) : Deed → Prop
  | .pack _ m h => 1 ≤ m ∧ 0 ∈ E ∧ m ∈ E ∧ .ly h ∈ SP
  | .lade o t _ a b => a ≤ b ∧ a ∈ E ∧ b + 1 ∈ E ∧ .ly o ∈ SP ∧ .ly t ∈ SP
  | .sell h _ a b => a ≤ b ∧ a ∈ E ∧ b + 1 ∈ E ∧ .ly h ∈ SP ∧ .sold ∈ SP
  | .back h _ a b => a ≤ b ∧ a ∈ E ∧ b + 1 ∈ E ∧ .ly h ∈ SP ∧ .back ∈ SP
  | .tell h _ t => (∃ lo, Ris lo t) ∧ ChP E (InS t) ∧ .ly h ∈ SP ∧ .lk num ∈ SP
def AskS (a b : Int) : Int → Prop := fun n => a ≤ n ∧ n ≤ b
theorem askS_ch {E : List Int} {a b : Int} (ha : a ∈ E) (hb : b + 1 ∈ E) : ChP E (AskS a b) := fun n hn => by
  have h1 : n ≠ a := fun z => hn (z ▸ ha)
  have h2 : n ≠ b + 1 := fun z => hn (z ▸ hb)
  unfold AskS
  omega
theorem askS_in {a b n : Int} : InS [(a, b)] n ↔ AskS a b n := ⟨fun ⟨p, hp, e⟩ => by rw [List.mem_singleton.mp hp] at e; exact e, fun h => ⟨_, List.mem_singleton.mpr rfl, h⟩⟩
open Classical in
/-- carried from a holder to a spot -/
noncomputable def caW (W : Whr) (h : Str) (g : Spt) (p : Int → Prop) : Whr := fun n => if W n = some (.ly h) ∧ p n then some g else W n
theorem ca_eq {W : Whr} {h : Str} {g : Spt} {p : Int → Prop} : ptW (rmW W (.ly h) p) g (fun n => W n = some (.ly h) ∧ p n) = caW W h g p := by
  funext n
  unfold ptW caW rmW
  by_cases c : W n = some (.ly h) ∧ p n
  · rw [if_pos c, if_pos c]
  · rw [if_neg c, if_neg c, if_neg c]
theorem ChW.ca {E : List Int} {W : Whr} (h : ChW E W) {x : Str} {g : Spt} {p : Int → Prop} (hp : ChP E p) : ChW E (caW W x g p) := fun n hn => by
  unfold caW
  rw [h n hn, propext (hp n hn)]
/-- what lacks and is told -/
def FndP (W : Whr) (p : Int → Prop) : Int → Prop := fun n => (∃ k, W n = some (.lk k)) ∧ p n
open Classical in
noncomputable def teW (W : Whr) (h : Str) (num : Int) (p : Int → Prop) : Whr := fun n => if FndP W p n then some (.ly h) else if W n = some (.ly h) ∧ ¬ p n then some (.lk num) else W n
theorem FndP.ch {E : List Int} {W : Whr} (h : ChW E W) {p : Int → Prop} (hp : ChP E p) : ChP E (FndP W p) := fun n hn => by
  unfold FndP
  rw [h n hn, propext (hp n hn)]
theorem ChW.te {E : List Int} {W : Whr} (h : ChW E W) {x : Str} {num : Int} {p : Int → Prop} (hp : ChP E p) : ChW E (teW W x num p) := fun n hn => by
  unfold teW FndP
  rw [h n hn, propext (hp n hn)]
abbrev Prs2 := List (Int × Int)
abbrev PutT := Str × Str × Prs2
/-- what a deed does: where the cases lie then, what was short, what moved -/
noncomputable def doF (num : Int) (d : Deed) (W : Whr) : Whr × Prs2 × List PutT := match d with
  | .pack _ m h => (ptW W (.ly h) (AskS 0 (m - 1)), [], [("packed", h, [(0, m - 1)])])
  | .lade o t _ a b => (caW W o (.ly t) (AskS a b), canon (fun n => AskS a b n ∧ ¬ (W n = some (.ly o) ∧ AskS a b n)), [("laded", t, canon fun n => W n = some (.ly o) ∧ AskS a b n)])
  | .sell h _ a b => (caW W h .sold (AskS a b), canon (fun n => AskS a b n ∧ ¬ (W n = some (.ly h) ∧ AskS a b n)), [("sold", h, canon fun n => W n = some (.ly h) ∧ AskS a b n)])
  | .back h _ a b => (caW W h .back (AskS a b), canon (fun n => AskS a b n ∧ ¬ (W n = some (.ly h) ∧ AskS a b n)), [("back", h, canon fun n => W n = some (.ly h) ∧ AskS a b n)])
  | .tell h _ t => (teW W h num (InS t), canon (fun n => (InS t n ∧ ¬ W n = some (.ly h)) ∧ ¬ FndP W (InS t) n), [("lacking", h, canon fun n => W n = some (.ly h) ∧ ¬ InS t n), ("found", h, canon (FndP W (InS t)))])
theorem doF_ch {E : List Int} {SP : List Spt} {num : Int} {d : Deed} {W : Whr} (f : d.Fit E SP num) (h : ChW E W) : ChW E (doF num d W).1 := by
  cases d with
  | pack n m x => exact h.pt (askS_ch f.2.1 (by rw [Int.sub_add_cancel]; exact f.2.2.1))
  | lade o t n a b => exact h.ca (askS_ch f.2.1 f.2.2.1)
  | sell x n a b => exact h.ca (askS_ch f.2.1 f.2.2.1)
  | back x n a b => exact h.ca (askS_ch f.2.1 f.2.2.1)
  | tell x n t => exact h.te f.2.1
abbrev StF := List (Str × Whr)
structure StepT where
  num : Int
  nam : Str
  word : Str
  short : Prs2
  puts : List PutT
def hasN (st : StF) (x : Str) : Bool := st.any fun e => decide (e.1 = x)
def wdF (d : Deed) (st : StF) : Str := match d with
  | .pack n _ _ => if hasN st n = true then "packed" else "done"
  | .lade o t n _ _ => if hasN st n = true then (if o = t then "same" else "done") else "strange"
  | .sell _ n _ _ => if hasN st n = true then "done" else "strange"
  | .back _ n _ _ => if hasN st n = true then "done" else "strange"
  | .tell _ n _ => if hasN st n = true then "done" else "strange"
def whF (st : StF) (x : Str) : Whr := match st.find? fun e => decide (e.1 = x) with
  | some e => e.2
  | none => fun _ => none
def psF (st : StF) (x : Str) (W : Whr) : StF := if hasN st x = true then st.map fun e => if e.1 = x then (e.1, W) else e else st ++ [(x, W)]
structure Page where
  day : Int
  num : Int
  deed : Deed
noncomputable def pgF (p : Page) (st : StF) : StF × StepT :=
  if wdF p.deed st = "done" then (psF st p.deed.nam (doF p.num p.deed (whF st p.deed.nam)).1, ⟨p.num, p.deed.nam, "done", (doF p.num p.deed (whF st p.deed.nam)).2.1, (doF p.num p.deed (whF st p.deed.nam)).2.2⟩)
  else (st, ⟨p.num, p.deed.nam, wdF p.deed st, [], []⟩)
noncomputable def goF : StF → List Page → StF × List StepT
  | st, [] => (st, [])
  | st, p :: r => ((goF (pgF p st).1 r).1, (pgF p st).2 :: (goF (pgF p st).1 r).2)
theorem goF_snoc (p : Page) : ∀ (ps : List Page) (st : StF), goF st (ps ++ [p]) = ((pgF p (goF st ps).1).1, (goF st ps).2 ++ [(pgF p (goF st ps).1).2])
  | [], _ => rfl
  | x :: r, st => by
    rw [List.cons_append, goF, goF_snoc p r, goF]
    rfl

/-! ## generator expressions: a frame of their own, its rules those of any body -/
namespace GX
open PySem PySem.Spec PyProof.Rows L2 GenW
/-- the object at c is a code object with its table at P -/
def CodeG (c P : Addr) : HO := .ext fun h => PySem.W.CodeHd h c P
theorem codeG_ne {c P : Addr} (ps : Array Value) : CodeG c P ≠ .tbl ps := fun z => by
  unfold CodeG at z
  cases z
/-- all but tables stands, tables stay tables -/
structure NoTab (H H2 : Hp) : Prop where
  keep : ∀ b o, H b = some o → (∀ ps, o ≠ .tbl ps) → H2 b = some o
  tab : ∀ b ps, H b = some (.tbl ps) → ∃ qs, H2 b = some (.tbl qs)
theorem NoTab.refl (H : Hp) : NoTab H H := ⟨fun _ _ e _ => e, fun _ ps e => ⟨ps, e⟩⟩
theorem NoTab.trans {H H1 H2 : Hp} (a : NoTab H H1) (b : NoTab H1 H2) : NoTab H H2 := ⟨fun x o e n => b.keep x o (a.keep x o e n) n, fun x ps e => let ⟨qs, e1⟩ := a.tab x ps e; b.tab x qs e1⟩
theorem NoTab.of {H H1 : Hp} (k : ∀ b o, H b = some o → H1 b = some o) : NoTab H H1 := ⟨fun b o e _ => k b o e, fun b ps e => ⟨ps, k _ _ e⟩⟩
theorem NoTab.free {H H1 : Hp} {p : Addr} (n : NoTab H H1) (h : H1 p = none) : H p = none := by
  cases e : H p with
  | none => rfl
  | some o =>
    by_cases ct : ∃ q, o = .tbl q
    · obtain ⟨q, rfl⟩ := ct
      obtain ⟨qs, e1⟩ := n.tab p q e
      rw [h] at e1
      cases e1
    · have e1 := n.keep p o e fun ps z => ct ⟨ps, z⟩
      rw [h] at e1
      cases e1
theorem NoTab.lst {H H1 : Hp} {a : Addr} {xs : List V} (n : NoTab H H1) (e : H a = some (.lst xs)) : H1 a = some (.lst xs) := n.keep _ _ e fun _ z => nomatch z
theorem NoTab.tup {H H1 : Hp} {a : Addr} {xs : List V} (n : NoTab H H1) (e : H a = some (.tup xs)) : H1 a = some (.tup xs) := n.keep _ _ e fun _ z => nomatch z
theorem NoTab.code {H H1 : Hp} {a c P : Addr} (n : NoTab H H1) (e : H a = some (CodeG c P)) : H1 a = some (CodeG c P) := n.keep _ _ e codeG_ne
theorem NoTab.sqL {K : PySem.W.Frag} {H H1 : Hp} {a : Addr} {xs : List V} (n : NoTab H H1) (h : SqL K H a xs) : SqL K H1 a xs :=
  h.elim (fun z => z.elim (fun e => .inl (.inl (n.lst e))) fun ⟨o, e⟩ => .inl (.inr ⟨o, n.keep _ _ e fun _ z => nomatch z⟩)) .inr
theorem NoTab.sqT {K : PySem.W.Frag} {H H1 : Hp} {a : Addr} {xs : List V} (n : NoTab H H1) (h : SqT K H a xs) : SqT K H1 a xs :=
  h.elim (fun z => z.elim (fun e => .inl (.inl (n.tup e))) fun ⟨o, e⟩ => .inl (.inr ⟨o, n.keep _ _ e fun _ z => nomatch z⟩)) .inr
/-- a list that was new may change -/
theorem NoTab.new {H H1 : Hp} {a : Addr} {o : HO} (n : NoTab H H1) (e : H a = none) : NoTab H (L2.upd H1 a o) :=
  ⟨fun b u hb nt => by rw [upd_ne (ne_of_none hb e)]; exact n.keep b u hb nt, fun b ps hb => let ⟨qs, e1⟩ := n.tab b ps hb; ⟨qs, by rw [upd_ne (ne_of_none hb e)]; exact e1⟩⟩
/-- the table at P: each code object that it tells is known, and its own table, which is none of Xs -/
def TabQ (Xs : List Addr) (H : Hp) (P : Addr) : Prop := ∃ ps : Array Value, H P = some (.tbl ps) ∧ TriplesOk ps.toList ∧ ∀ (pos : Pos) (cv : Value), codeAmong pos ps.toList = some cv → ∃ c' P', cv = .ref c' ∧ H c' = some (CodeG c' P') ∧ P' ∉ Xs ∧ GxR.TabG H P'
theorem TabQ.nil {Xs : List Addr} {H : Hp} {P : Addr} (h : H P = some (.tbl #[])) : TabQ Xs H P := ⟨#[], h, True.intro, fun pos cv hc => by
  have z : codeAmong pos [] = some cv := hc
  simp [codeAmong] at z⟩
/-- the tables of the defs that hold generator expressions, those of lambdas with their names -/
structure Mq where
  ms : List Addr
  ls : List (Addr × Str)
instance : Membership Addr Mq := ⟨fun M a => a ∈ M.ms⟩
theorem Mq.mem {M : Mq} {a : Addr} : a ∈ M ↔ a ∈ M.ms := Iff.rfl
/-- the tables at Ms, of the defs that hold generator expressions or lambdas; Xs: all tables of defs -/
structure TQ (Ms : Mq) (Xs : List Addr) (H : Hp) : Prop where
  all : ∀ x ∈ Xs, ∃ ps, H x = some (.tbl ps)
  gx : ∀ m ∈ Ms, TabQ Xs H m ∧ m ∈ Xs
  lam : ∀ l ∈ Ms.ls, l.1 ∈ Xs ∧ l.1 ∉ Ms.ms ∧ LamX.TabS H l.1 l.2
theorem tabS_keep {H H2 : Hp} {P : Addr} {q : Str} (t : LamX.TabS H P q) (k : ∀ ps, H P = some (.tbl ps) → H2 P = some (.tbl ps)) (ko : ∀ b c q, H b = some (LamX.CodeO c q) → H2 b = some (LamX.CodeO c q)) : LamX.TabS H2 P q := by
  obtain ⟨ps, a, b, c⟩ := t
  refine ⟨ps, k _ a, b, fun pos cv hc => ?_⟩
  obtain ⟨c', e1, e2⟩ := c pos cv hc
  exact ⟨c', e1, ko _ _ _ e2⟩
theorem codeO_ne {c : Addr} {q : Str} (ps : Array Value) : LamX.CodeO c q ≠ .tbl ps := fun z => by
  unfold LamX.CodeO at z
  cases z
theorem tabG_same {H H2 : Hp} {P : Addr} (h : GxR.TabG H P) (k : ∀ b o, H b = some o → H2 b = some o) : GxR.TabG H2 P := let ⟨ps, a, b⟩ := h; ⟨ps, k _ _ a, b⟩
theorem TQ.same {Ms : Mq} {Xs : List Addr} {H H2 : Hp} (h : TQ Ms Xs H) (k : ∀ b o, H b = some o → H2 b = some o) : TQ Ms Xs H2 := by
  refine ⟨fun x hx => let ⟨ps, e⟩ := h.all x hx; ⟨ps, k _ _ e⟩, fun m hm => ?_, fun l hl => let ⟨a, b, c⟩ := h.lam l hl; ⟨a, b, c.ext k⟩⟩
  obtain ⟨⟨ps, a, b, c⟩, hx⟩ := h.gx m hm
  refine ⟨⟨ps, k _ _ a, b, fun pos cv hc => ?_⟩, hx⟩
  obtain ⟨c', P', e1, e2, e3, e4⟩ := c pos cv hc
  exact ⟨c', P', e1, k _ _ e2, e3, tabG_same e4 k⟩
/-- all that is no table may change, where no code object does -/
theorem TQ.keep {Ms : Mq} {Xs : List Addr} {H H2 : Hp} (h : TQ Ms Xs H) (k : ∀ b ps, H b = some (.tbl ps) → H2 b = some (.tbl ps)) (kc : ∀ b c P, H b = some (CodeG c P) → H2 b = some (CodeG c P)) (ko : ∀ b c q, H b = some (LamX.CodeO c q) → H2 b = some (LamX.CodeO c q)) : TQ Ms Xs H2 := by
  refine ⟨fun x hx => let ⟨ps, e⟩ := h.all x hx; ⟨ps, k _ _ e⟩, fun m hm => ?_, fun l hl => let ⟨a, b, c⟩ := h.lam l hl; ⟨a, b, tabS_keep c (k _) ko⟩⟩
  obtain ⟨⟨ps, a, b, c⟩, hx⟩ := h.gx m hm
  refine ⟨⟨ps, k _ _ a, b, fun pos cv hc => ?_⟩, hx⟩
  obtain ⟨c', P', e1, e2, e3, q, f1, f2⟩ := c pos cv hc
  exact ⟨c', P', e1, kc _ _ _ e2, e3, q, k _ _ f1, f2⟩
theorem TQ.upd {Ms : Mq} {Xs : List Addr} {H : Hp} {l : Addr} {xs : List V} {o : HO} (h : TQ Ms Xs H) (e : H l = some (.lst xs)) : TQ Ms Xs (L2.upd H l o) :=
  h.keep (fun b ps hb => by rw [upd_ne (ne_of hb e (fun z => nomatch z))]; exact hb) (fun b c P hb => by rw [upd_ne (ne_of hb e (fun z => by unfold CodeG at z; cases z))]; exact hb) (fun b c q hb => by rw [upd_ne (ne_of hb e (fun z => by unfold LamX.CodeO at z; cases z))]; exact hb)
/-- all but the object at P stands -/
def But (P : Addr) (H H2 : Hp) : Prop := ∀ b o, b ≠ P → H b = some o → H2 b = some o
theorem But.noTab {P : Addr} {H H2 : Hp} (h : But P H H2) {q q2 : Array Value} (e : H P = some (.tbl q)) (e2 : H2 P = some (.tbl q2)) : NoTab H H2 :=
  ⟨fun b o hb n => h b o (fun z => n q (by rw [z, e] at hb; exact (Option.some.inj hb).symm)) hb, fun b ps hb => by
    by_cases z : b = P
    · exact ⟨q2, by rw [z]; exact e2⟩
    · exact ⟨ps, h b _ z hb⟩⟩
/-- a table that is none of a def's has grown -/
theorem TQ.but {Ms : Mq} {Xs : List Addr} {H H2 : Hp} {P : Addr} (h : TQ Ms Xs H) (n : P ∉ Xs) (t : GxR.TabG H P) (t2 : GxR.TabG H2 P) (k : But P H H2) : TQ Ms Xs H2 := by
  obtain ⟨q0, hq0, _⟩ := t
  refine ⟨fun x hx => let ⟨ps, e⟩ := h.all x hx; ⟨ps, k _ _ (fun z => n (z ▸ hx)) e⟩, fun m hm => ?_, fun l hl => let ⟨a, b, c⟩ := h.lam l hl; ⟨a, b, tabS_keep c (fun _ => k _ _ (fun z => n (z ▸ a))) fun b c q e => k _ _ (ne_of e hq0 (codeO_ne q0)) e⟩⟩
  obtain ⟨⟨ps, a, b, c⟩, hx⟩ := h.gx m hm
  refine ⟨⟨ps, k _ _ (fun z => n (z ▸ hx)) a, b, fun pos cv hc => ?_⟩, hx⟩
  obtain ⟨c', P', e1, e2, e3, e4⟩ := c pos cv hc
  refine ⟨c', P', e1, k _ _ (ne_of e2 hq0 (codeG_ne q0)) e2, e3, ?_⟩
  by_cases e : P' = P
  · rw [e]; exact t2
  · obtain ⟨q, h1, h2⟩ := e4
    exact ⟨q, k _ _ e h1, h2⟩
/-- a lambda's own table has grown -/
theorem TQ.lamS {Ms : Mq} {Xs : List Addr} {H H2 : Hp} {P : Addr} {q : Str} (h : TQ Ms Xs H) (hl : (P, q) ∈ Ms.ls) (hu : ∀ l ∈ Ms.ls, l.1 = P → l.2 = q) (t2 : LamX.TabS H2 P q) (k : But P H H2) : TQ Ms Xs H2 := by
  obtain ⟨hX, hM, q0, hq0, _⟩ := h.lam _ hl
  obtain ⟨q2, hq2, _⟩ := id t2
  refine ⟨fun x hx => ?_, fun m hm => ?_, fun l hl' => ?_⟩
  · by_cases e : x = P
    · exact ⟨q2, by rw [e]; exact hq2⟩
    · obtain ⟨ps, e0⟩ := h.all x hx
      exact ⟨ps, k _ _ e e0⟩
  · obtain ⟨⟨ps, a, b, c⟩, hx⟩ := h.gx m hm
    refine ⟨⟨ps, k _ _ (fun z => hM (z ▸ hm)) a, b, fun pos cv hc => ?_⟩, hx⟩
    obtain ⟨c', P', e1, e2, e3, q, h1, h2⟩ := c pos cv hc
    exact ⟨c', P', e1, k _ _ (ne_of e2 hq0 (codeG_ne q0)) e2, e3, q, k _ _ (fun z => e3 (z ▸ hX)) h1, h2⟩
  · obtain ⟨a, b, c⟩ := h.lam l hl'
    refine ⟨a, b, ?_⟩
    by_cases e : l.1 = P
    · rw [e, hu l hl' e]
      exact t2
    · exact tabS_keep c (fun _ => k _ _ e) fun b c q e => k _ _ (ne_of e hq0 (codeO_ne q0)) e
section
variable {X : Cx} {pins : List (Addr × Obj)} {σ : L2.St} {H : Hp} {s : Shared}
theorem codeHd_stay {c P : Addr} {h1 h2 : Heap} (x : PySem.W.CodeHd h1 c P) (k : ∀ o, h1.get? c = some o → h2.get? c = some o) : PySem.W.CodeHd h2 c P :=
  let ⟨o, vs, file, tf, flags, tg, inF, text, tt, e, r⟩ := x; ⟨o, vs, file, tf, flags, tg, inF, text, tt, k _ e, r⟩
/-- the table's object is written, the code object at c and its table at P2 are new -/
theorem inv_code {P c P2 : Addr} {ps more : Array Value} {h' : Heap} {t' : Nat} (I : Inv X pins σ H s) (hP : H P = some (.tbl ps)) (k : ∀ b o, b ≠ P → s.heap.get? b = some o → h'.get? b = some o)
    (hm : h'.get? P = some { cls := .none, data := .fields (ps ++ more) }) (hc : s.heap.objs.size ≤ c) (hp2 : s.heap.objs.size ≤ P2) (ncp : c ≠ P2) (ho : PySem.W.CodeHd h' c P2) (hq : h'.get? P2 = some { cls := .none, data := .fields #[] }) :
    Inv X pins σ (upd (upd (upd H P (.tbl (ps ++ more))) c (CodeG c P2)) P2 (.tbl #[])) { s with heap := h', toks := t' } := by
  have nC : H c = none := I.hok.fresh hc
  have nQ : H P2 = none := I.hok.fresh hp2
  have nPc : P ≠ c := ne_of_none hP nC
  have nPq : P ≠ P2 := ne_of_none hP nQ
  have at_ : ∀ b, b ≠ P → b ≠ c → b ≠ P2 → upd (upd (upd H P (.tbl (ps ++ more))) c (CodeG c P2)) P2 (.tbl #[]) b = H b := fun b h1 h2 h3 => by rw [upd_ne h3, upd_ne h2, upd_ne h1]
  have atP : upd (upd (upd H P (.tbl (ps ++ more))) c (CodeG c P2)) P2 (.tbl #[]) P = some (.tbl (ps ++ more)) := by rw [upd_ne nPq, upd_ne nPc, upd_same]
  have nP : ∀ b u, H b = some u → (∀ q, u ≠ .tbl q) → b ≠ P := fun b u e q z => by
    rw [z, hP] at e
    exact q ps (Option.some.inj e).symm
  have nN : ∀ b, H b = none → b ≠ P := fun b e z => by
    rw [z, hP] at e
    cases e
  have lt' : ∀ b o, s.heap.get? b = some o → b ≠ c ∧ b ≠ P2 := fun b o e => ⟨fun z => by
    rw [z] at e
    exact Nat.lt_irrefl _ (Nat.lt_of_lt_of_le (Heap.lt_size e) hc), fun z => by
    rw [z] at e
    exact Nat.lt_irrefl _ (Nat.lt_of_lt_of_le (Heap.lt_size e) hp2)⟩
  have sm : ∀ b u, H b = some u → b ≠ c ∧ b ≠ P2 := fun b u e => ⟨ne_of_none e nC, ne_of_none e nQ⟩
  refine I.step (g' := s.gens) (d' := s.drawn) (ch := []) (fun b hb => absurd hb (by simp)) (fun b o _ _ _ e n => k b o (nN b n) e) (fun b o _ _ _ e n => ⟨o.slots, k b o (nN b n) e⟩)
    (fun b o _ e n => by rw [at_ b (nN b n) (lt' b o e).1 (lt' b o e).2]; exact n) (fun b o _ e => ?_) (fun b xs e => by rw [at_ b (nP b _ e (fun q z => by cases z)) (sm b _ e).1 (sm b _ e).2]; exact e) (fun b o u e => by rw [at_ b (nP b _ e (fun q z => by cases z)) (sm b _ e).1 (sm b _ e).2]; exact e) (fun b qs e => ?_) (fun m hn => ?_) (fun b u e => ?_) I.bare
  · by_cases hb : b = P
    · rw [hb]
      exact ⟨_, hm⟩
    · exact ⟨o, k b o hb e⟩
  · by_cases hb : b = P
    · rw [hb, hP] at e
      cases e
      rw [hb, atP]
      exact ⟨more, rfl⟩
    · rw [at_ b hb (sm b _ e).1 (sm b _ e).2, e]
      exact ⟨#[], by simp⟩
  · obtain ⟨ob, es, ep, ho, r⟩ := hn
    exact ⟨ob, es, ep, k _ ob (nN _ I.free) ho, r⟩
  · by_cases hb2 : b = P2
    · rw [hb2, upd_same] at e
      cases e
      rw [hb2]
      exact hq
    · by_cases hb : b = c
      · rw [hb, upd_ne ncp, upd_same] at e
        cases e
        rw [hb]
        refine ⟨ho, ?_, fun h1 h2 a st => codeHd_stay a st⟩
        obtain ⟨o, _, _, _, _, _, _, _, _, e, _⟩ := ho
        exact ⟨o, e⟩
      · by_cases hbP : b = P
        · rw [hbP, atP] at e
          cases e
          rw [hbP]
          exact hm
        · rw [at_ b hbP hb hb2] at e
          refine (I.hok b u e).stay (fun d v hd q => k d v ?_ q) (fun d q => by rw [at_ d (nP d _ q (fun q z => by cases z)) (sm d _ q).1 (sm d _ q).2]; exact q) fun d xs q => by rw [at_ d (nP d _ q (fun q z => by cases z)) (sm d _ q).1 (sm d _ q).2]; exact q
          rcases hd with z | z
          · rw [z]
            exact hbP
          · exact nP d _ z (fun q z => by cases z)
end
/-- the making of a generator expression's code object, as it is read -/
abbrev TC := L2.St → Hp → (Value → Hp → Prop) → Prop
structure PC (X : Cx) (gpos : Pos) (scope : Scope) (tc : TC) : Prop where
  run : ∀ (pins : List (Addr × Obj)) (s : Shared) (σ : L2.St) (H : Hp) (Q : Value → Hp → Prop) (E : Value → Shared → Prop), Inv X pins σ H s → tc σ H Q →
    wpAny (model X.prog X.w) X.A (genexprCode X.env gpos (X.env.qual ++ "<genexpr>") scope) (fun code s' => ∃ H', Inv X pins σ H' s' ∧ s.heap.objs.size ≤ s'.heap.objs.size ∧ Q code H') E s
/-- of a def's own code object -/
def tCo (Ms : Mq) (Xs : List Addr) (P : Addr) : TC := fun _ H Q => TQ Ms Xs H ∧ P ∈ Ms ∧ ∀ (H2 : Hp) (c' P' : Addr), NoTab H H2 → TQ Ms Xs H2 → P' ∉ Xs → H2 c' = some (CodeG c' P') → GxR.TabG H2 P' → Q (.ref c') H2
theorem pc_own {X : Cx} {Ms : Mq} {Xs : List Addr} {c P : Addr} {gpos : Pos} {scope : Scope} (TB : GxR.TabB X.base X.mg c P) (hcode : X.env.code = .ref c) : PC X gpos scope (tCo Ms Xs P) := by
  refine ⟨fun pins s σ H Q E I h => ?_⟩
  obtain ⟨tq, hPm, q⟩ := h
  obtain ⟨⟨ps, hP, ok, kn⟩, hPx⟩ := tq.gx P hPm
  have hP' : s.heap.get? P = some { cls := .none, data := .fields ps } := I.hok P _ hP
  have C := TB.code.keeps I.bk
  cases found : codeAmong gpos ps.toList with
  | some old =>
    obtain ⟨c', P', rfl, e2, e3, e4⟩ := kn gpos _ found
    exact wpAny_genexprCode_hit hcode (C.code hP' ok) found ⟨H, I, Nat.le_refl _, q H c' P' (NoTab.refl _) tq e3 e2 e4⟩
  | none =>
    refine wpAny_genexprCodeX hcode (C.code hP' ok) (C.tab hP') found fun c' h' tk ext le lt isC _ tab ⟨P', le2, isC2, tab2⟩ => ?_
    obtain ⟨_, _, _, _, _, _, _, _, _, _, _, _, _, _, _, _, _, _, _, okT, _⟩ := isC
    have hd2 := PySem.W.CodeHd.of isC2 tab2
    have ncp : c' ≠ P' := by
      obtain ⟨_, _, _, _, _, _, _, _, _, _, _, _, _, _, _, _, _, _, hne⟩ := hd2
      exact hne
    have J := inv_code (t' := tk) I hP (fun b o hb e => ext b o hb e) tab.2 le le2 ncp hd2 tab2.2
    have nC : H c' = none := I.hok.fresh le
    have nQ : H P' = none := I.hok.fresh le2
    have nPc : P ≠ c' := ne_of_none hP nC
    have nPq : P ≠ P' := ne_of_none hP nQ
    have nX : P' ∉ Xs := fun z => by
      obtain ⟨ps0, e⟩ := tq.all P' z
      rw [nQ] at e
      cases e
    have eL : (ps ++ #[rawInt gpos.line, rawInt gpos.col, .ref c']).toList = ps.toList ++ [rawInt gpos.line, rawInt gpos.col, .ref c'] := by simp
    have kp : But P H (upd (upd (upd H P (.tbl (ps ++ #[rawInt gpos.line, rawInt gpos.col, .ref c']))) c' (CodeG c' P')) P' (.tbl #[])) := fun b o hb e => by
      rw [upd_ne (ne_of_none e nQ), upd_ne (ne_of_none e nC), upd_ne hb]
      exact e
    have eC : upd (upd (upd H P (.tbl (ps ++ #[rawInt gpos.line, rawInt gpos.col, .ref c']))) c' (CodeG c' P')) P' (.tbl #[]) c' = some (CodeG c' P') := by rw [upd_ne ncp, upd_same]
    have tG : GxR.TabG (upd (upd (upd H P (.tbl (ps ++ #[rawInt gpos.line, rawInt gpos.col, .ref c']))) c' (CodeG c' P')) P' (.tbl #[])) P' := ⟨#[], upd_same, True.intro⟩
    have eP : upd (upd (upd H P (.tbl (ps ++ #[rawInt gpos.line, rawInt gpos.col, .ref c']))) c' (CodeG c' P')) P' (.tbl #[]) P = some (.tbl (ps ++ #[rawInt gpos.line, rawInt gpos.col, .ref c'])) := by rw [upd_ne nPq, upd_ne nPc, upd_same]
    have sub : ∀ c0 P0, H c0 = some (CodeG c0 P0) → P0 ∉ Xs → GxR.TabG H P0 → GxR.TabG (upd (upd (upd H P (.tbl (ps ++ #[rawInt gpos.line, rawInt gpos.col, .ref c']))) c' (CodeG c' P')) P' (.tbl #[])) P0 := fun c0 P0 _ e3 ⟨q0, f1, f2⟩ => ⟨q0, kp _ _ (fun z => e3 (z ▸ hPx)) f1, f2⟩
    refine ⟨_, J, Nat.le_trans le (Nat.le_of_lt lt), q _ c' P' (kp.noTab hP eP) ⟨fun x hx => ?_, fun m hm => ?_, fun l hl => let ⟨a, b, c⟩ := tq.lam l hl; ⟨a, b, tabS_keep c (fun _ => kp _ _ (fun z => b (by rw [z]; exact hPm))) fun b c q e => kp _ _ (ne_of e hP (codeO_ne ps)) e⟩⟩ nX eC tG⟩
    · by_cases e : x = P
      · exact ⟨_, by rw [e]; exact eP⟩
      · obtain ⟨ps0, e0⟩ := tq.all x hx
        exact ⟨ps0, kp _ _ e e0⟩
    · by_cases e : m = P
      · subst e
        refine ⟨⟨_, eP, okT, fun pos cv hcv => ?_⟩, hPx⟩
        rw [eL] at hcv
        rcases LamX.among_app _ ok hcv with z | z
        · obtain ⟨c0, P0, e1, e2, e3, e4⟩ := kn pos cv z
          exact ⟨c0, P0, e1, kp _ _ (ne_of e2 hP (codeG_ne ps)) e2, e3, sub c0 P0 e2 e3 e4⟩
        · exact ⟨c', P', z, eC, nX, tG⟩
      · obtain ⟨⟨ps0, a, b, c⟩, hx⟩ := tq.gx m hm
        refine ⟨⟨ps0, kp _ _ e a, b, fun pos cv hc => ?_⟩, hx⟩
        obtain ⟨c0, P0, e1, e2, e3, e4⟩ := c pos cv hc
        exact ⟨c0, P0, e1, kp _ _ (ne_of e2 hP (codeG_ne ps)) e2, e3, sub c0 P0 e2 e3 e4⟩
/-- of the code object of the generator expression around -/
def tCj (Ms : Mq) (Xs : List Addr) (code : Value) : TC := fun _ H Q => ∃ c P, code = .ref c ∧ H c = some (CodeG c P) ∧ P ∉ Xs ∧ GxR.TabG H P ∧ TQ Ms Xs H ∧ ∀ (H2 : Hp) (code' : Value), NoTab H H2 → TQ Ms Xs H2 → GxR.TabG H2 P → Q code' H2
theorem pc_in {X : Cx} {Ms : Mq} {Xs : List Addr} {code : Value} {gpos : Pos} {scope : Scope} (hcode : X.env.code = code) : PC X gpos scope (tCj Ms Xs code) := by
  refine ⟨fun pins s σ H Q E I h => ?_⟩
  obtain ⟨c, P, ec, hC, nX, ⟨ps, hP, ok⟩, tq, q⟩ := h
  rw [ec] at hcode
  have hP' : s.heap.get? P = some { cls := .none, data := .fields ps } := I.hok P _ hP
  have C : PySem.W.CodeHd s.heap c P := (I.hok c _ hC).1
  cases found : codeAmong gpos ps.toList with
  | some old => exact wpAny_genexprCode_hit hcode (C.code hP' ok) found ⟨H, I, Nat.le_refl _, q H _ (NoTab.refl _) tq ⟨ps, hP, ok⟩⟩
  | none =>
    refine wpAny_genexprCodeX hcode (C.code hP' ok) (C.tab hP') found fun c' h' tk ext le lt isC _ tab _ => ?_
    obtain ⟨_, _, _, _, _, _, _, _, _, _, _, _, _, _, _, _, _, _, _, okT, _⟩ := isC
    have J := GxR.inv_tab (more := #[rawInt gpos.line, rawInt gpos.col, .ref c']) (g' := s.gens) (d' := s.drawn) (t' := tk) I hP (fun b o hb e => ext b o hb e) tab.2 I.bare
    have kp : But P H (upd H P (.tbl (ps ++ #[rawInt gpos.line, rawInt gpos.col, .ref c']))) := fun b o hb e => by rw [upd_ne hb]; exact e
    have t2 : GxR.TabG (upd H P (.tbl (ps ++ #[rawInt gpos.line, rawInt gpos.col, .ref c']))) P := ⟨_, upd_same, okT⟩
    exact ⟨_, J, Nat.le_trans le (Nat.le_of_lt lt), q _ _ (kp.noTab hP upd_same) (tq.but nX ⟨ps, hP, ok⟩ t2 kp) t2⟩
end GX

namespace GX
open PySem PySem.Spec PyProof.Rows L2 GenW
/-- the context of a generator expression's frame, which runs in the around B -/
abbrev gcx (X : Cx) (B : Around) (s : Shared) (H : Hp) (scope : Scope) (genv : Env) (fp : List Addr) : Cx :=
  { X with A := B, s_0 := s, H_0 := H, env := genv, outer := X.stack, stack := genv :: X.stack, ex := fp, fn := fun x => scope.names.lookup x == some .cell, calm := true, pn := [], xe := fun _ _ => False }
/-- the names of a generator expression: its own (with their places in N), or captured -/
structure GOk (N : List Str) (sc scope : Scope) (own : List (Str × Nat)) : Prop where
  blk : BlkOk N sc scope own
  dot : scope.names.lookup (".0" : Str) = some .local
  co : scope.isCoroutine = false
def gokB (N : List Str) (sc scope : Scope) (own : List (Str × Nat)) : Bool := blkC N sc scope own && decide (scope.names.lookup (".0" : Str) = some .local) && !scope.isCoroutine
theorem gok_by {N : List Str} {sc scope : Scope} {own : List (Str × Nat)} (h : gokB N sc scope own = true) : GOk N sc scope own := by
  unfold gokB at h
  simp only [Bool.and_eq_true, Bool.not_eq_true', decide_eq_true_eq] at h
  exact ⟨blkOk_by h.1.1, h.1.2, h.2⟩
abbrev frameH (h : Heap) (names : List (Str × NameKind)) : Heap := pushCells (h.push { cls := .type "frame", data := .dict #[] }) names
theorem newGenEnv {M : Model} {A : Around} {E : Value → Shared → Prop} {s : Shared} {scope : Scope} {globals : Addr} {cl : List (Str × Addr)} {qual : Str} {code it : Value} {bi : Addr} {Q : Env → Shared → Prop} (hk : scope.kind = .function) (h0 : scope.names.lookup (".0" : Str) = some .local)
    (h : ∀ h', h'.Ns s.heap.objs.size (fun y => if y = (".0" : Str) then some it else none) → Heap.SameBut s.heap.objs.size (frameH s.heap scope.names) h' →
      Q { scope, locals := s.heap.objs.size, globals, cells := cellsFrom (s.heap.objs.size + 1) scope.names cl, qual, func := none, code, frame := some s.heap.objs.size, builtins := bi } { s with heap := h', toks := s.toks + 1 }) :
    wpAny M A (newFunctionEnv scope globals cl [(".0", it)] qual none code none bi) Q E s := by
  simp only [newFunctionEnv, Option.isSome_none, Bool.false_eq_true, if_false]
  refine wpAny_bind (wpAny_alloc ?_)
  refine wpAny_bind (wpAny_layCells _ (fun name kind cells => by cases hkc : kind == NameKind.cell <;> simp [hkc]) _ _ _ _ ?_)
  rw [show ({ s with heap := s.heap.push { cls := .type "frame", data := .dict #[] } } : Shared).heap.objs.size = s.heap.objs.size + 1 from Heap.size_push ..]
  rw [List.forIn_cons]
  refine wpAny_bind (wpAny_bind (wpAny_bind (wpAny_storeName_local (m := fun _ => none) h0 ((Heap.Ns.new s.heap (.type "frame")).keeps (pushCells_keeps _ _)) (fun h' hn' hs' => ?_) (by
    show (scope.kind == .class || (scope.kind == .module && _)) = false
    rw [hk]; rfl))))
  refine wpAny_pure ?_
  dsimp only
  rw [List.forIn_nil]
  exact wpAny_pure (wpAny_pure (h h' hn' hs'))
abbrev gEnv (X : Cx) (scope : Scope) (s : Shared) (code : Value) : Env := genEnv scope (cellsFrom (s.heap.objs.size + 1) scope.names (cloFrom X.env.cells scope.names [])) s.heap.objs.size code builtinsNs X.env
section
variable {X : Cx} {pins : List (Addr × Obj)} {σ : L2.St} {H : Hp} {s : Shared}
/-- what the around of the frame is to be -/
structure BOk (X : Cx) (B : Around) (genv : Env) : Prop where
  hd : B.handled = none
  fr : B.frames = some (genv :: X.stack)
theorem gx_start {B : Around} {scope : Scope} {own : List (Str × Nat)} {fp : List Addr} {code it : Value} {h' : Heap} {t' : Nat} (I : Inv X pins σ H s) (ok : GOk X.N X.env.scope scope own) (hN : X.N.Nodup) (hfp : ∀ b ∈ fp, FpOk X pins H b ∧ b < s.heap.objs.size)
    (hB : BOk X B (gEnv X scope s code)) (hn' : h'.Ns s.heap.objs.size (fun y => if y = (".0" : Str) then some it else none)) (hs' : Heap.SameBut s.heap.objs.size (frameH s.heap scope.names) h') :
    Inv (gcx X B s H scope (gEnv X scope s code) fp) [] (wipe σ (own.map (·.2))) H { s with heap := h', toks := t' } := by
  obtain ⟨ok, hdot, hco⟩ := ok
  have hfree : ∀ y ∈ scope.names, y.2 = .free → ∃ c, X.env.cells.lookup y.1 = some c := fun y hy e => by
    rcases ok.free y hy e with k | k
    · exact I.ok.has _ (.inl k)
    · exact I.ok.has _ (.inr k)
  generalize hcenv : gEnv X scope s code = cenv at hB ⊢
  have kp0 : ∀ b o, s.heap.get? b = some o → (frameH s.heap scope.names).get? b = some o := fun b o e => pushCells_keeps _ _ _ _ (Heap.get?_push_of_some _ e)
  have kp : ∀ b o, s.heap.get? b = some o → h'.get? b = some o := fun b o e => hs'.extBut b o (Nat.ne_of_lt (Heap.lt_size e)) (kp0 b o e)
  have hL : cenv.locals = s.heap.objs.size := by rw [← hcenv]; rfl
  have hcl : cenv.cells = cellsFrom (s.heap.objs.size + 1) scope.names (cloFrom X.env.cells scope.names []) := by rw [← hcenv]; rfl
  have hsc : cenv.scope = scope := by rw [← hcenv]; rfl
  rw [← Heap.size_push s.heap { cls := .type "frame", data := .dict #[] }] at hcl
  have cm : ∀ {y c}, (y, c) ∈ cloFrom X.env.cells scope.names [] → X.env.cells.lookup y = some c ∧ c < s.heap.objs.size := fun {y c} hm => by
    rcases cloFrom_mem hm with hm | ⟨h1, rfl⟩
    · cases hm
    · obtain ⟨c, hc⟩ := hfree _ h1 rfl
      rw [hc]
      obtain ⟨w, z⟩ := I.cell _ _ hc
      exact ⟨rfl, z.lt⟩
  have mem : ∀ {y c}, cenv.cells.lookup y = some c → (X.env.cells.lookup y = some c ∧ c < s.heap.objs.size) ∨ (s.heap.objs.size + 1 ≤ c ∧ CellAt h' c none) := fun {y c} e => by
    rw [hcl] at e
    rcases cells_mem (PySem.mem_of_lookup e) with hm | ⟨_, h2, h3⟩
    · exact .inl (cm hm)
    · rw [Heap.size_push] at h2
      exact .inr ⟨h2, h3.sameBut hs' (Nat.ne_of_gt h2)⟩
  have look : ∀ {y}, scope.names.lookup y = some .free → ∃ c, cenv.cells.lookup y = some c ∧ X.env.cells.lookup y = some c := fun {y} hl => by
    have hy : (y, NameKind.free) ∈ scope.names := PySem.mem_of_lookup hl
    obtain ⟨c', e'⟩ := mem_lookup (cells_acc (names := scope.names) (n := (s.heap.push { cls := .type "frame", data := .dict #[] }).objs.size) (cloFrom_has (cells := X.env.cells) (acc := []) hy))
    rw [← hcl] at e'
    refine ⟨c', e', ?_⟩
    rw [hcl] at e'
    rcases cells_mem (PySem.mem_of_lookup e') with hm | ⟨h1, _, _⟩
    · exact (cm hm).1
    · have := ok.uniq _ h1
      rw [hl] at this; cases this
  have okB : (gcx X B s H scope cenv fp).Ok := by
    refine ⟨I.ok.mod, by show cenv.scope.kind = _; rw [hsc]; exact ok.kind, by show cenv.globals = _; rw [← hcenv]; exact I.ok.glob, by show cenv.builtins = _; rw [← hcenv]; rfl, by show s.heap.objs.size ≤ cenv.locals; rw [hL]; exact Nat.le_refl _,
      fun y z c e1 e2 => ?_, fun y hy => ?_, fun y c z e => ?_, fun _ => hB.hd, hB.fr, .inr ⟨rfl, by show cenv.frame = _; rw [← hcenv]; rfl⟩, fun b hb => ⟨?_, fun y c e z => ?_⟩, I.bs, Nat.le_trans I.ok.bsz I.sz, fun b o e hb => ?_, fun b hb z => ?_, I.stack, I.stkFree⟩
    · have e1 : cenv.cells.lookup y = some c := e1
      have e2 : cenv.cells.lookup z = some c := e2
      rw [hcl] at e1 e2
      refine cells_inj (fun p hp => ?_) (fun y z c a b => I.ok.inj y z c (cm a).1 (cm b).1) (PySem.mem_of_lookup e1) (PySem.mem_of_lookup e2)
      rw [Heap.size_push]
      exact Nat.lt_succ_of_lt (cm (y := p.1) (c := p.2) hp).2
    · show ∃ c, cenv.cells.lookup y = some c
      have key : ∀ k, cenv.kindOf y = some k → (k = .cell ∨ k = .free) → ∃ c, cenv.cells.lookup y = some c := fun k hk hk' => by
        have hk : scope.names.lookup y = some k := by
          unfold Env.kindOf at hk
          rw [hsc] at hk
          exact hk
        rcases hk' with rfl | rfl
        · obtain ⟨c, hm⟩ := cells_has (n := (s.heap.push { cls := .type "frame", data := .dict #[] }).objs.size) (acc := cloFrom X.env.cells scope.names []) (PySem.mem_of_lookup hk)
          obtain ⟨c', e'⟩ := mem_lookup hm
          exact ⟨c', by rw [hcl]; exact e'⟩
        · obtain ⟨c, h1, _⟩ := look hk
          exact ⟨c, h1⟩
      rcases hy with hy | hy
      · exact key _ hy (.inl rfl)
      · exact key _ hy (.inr rfl)
    · have z : (scope.names.lookup y == some NameKind.cell) = true := z
      have z : scope.names.lookup y = some .cell := by simpa using z
      have e : cenv.cells.lookup y = some c := e
      rw [hcl] at e
      rcases cells_mem (PySem.mem_of_lookup e) with hm | ⟨_, h2, _⟩
      · rcases cloFrom_mem hm with hm | ⟨h1, _⟩
        · cases hm
        · have q := ok.uniq _ h1
          rw [z] at q; cases q
      · rw [Heap.size_push] at h2
        exact Nat.le_of_succ_le h2
    · show b ≠ cenv.locals
      rw [hL]; exact Nat.ne_of_lt (hfp b hb).2
    · have e : cenv.cells.lookup y = some c := e
      rcases mem e with ⟨h1, _⟩ | ⟨h1, _⟩
      · exact (hfp b hb).1.2.2.2.2.1 y c h1 z
      · have h2 : s.heap.objs.size + 1 ≤ b := by rw [← z]; exact h1
        exact absurd (Nat.lt_of_lt_of_le (hfp b hb).2 (Nat.le_of_succ_le h2)) (Nat.lt_irrefl _)
    · rcases (hfp b hb).1.2.2.2.1 with z | z
      · exact I.ok.noex b o e z
      · exact absurd (Nat.lt_of_lt_of_le (Heap.lt_size e) (Nat.le_trans I.ok.bsz z)) (Nat.lt_irrefl _)
    · rcases List.mem_cons.mp (I.stkSub b z) with z | z
      · exact (hfp b hb).1.2.1 z
      · exact (hfp b hb).1.2.2.1 z
  refine ⟨okB, rfl, I.bare, Un.kept kp, ⟨fun y => if y = (".0" : Str) then some it else none, ?_, fun i y av e1 e2 e3 => ?_⟩, fun y c e => ?_, ?_, fun y c e => ?_, fun p hp => ?_, I.hok.kept kp, by rw [wipe_length]; exact I.len⟩
  · show Heap.Ns _ cenv.locals _
    rw [hL]
    exact hn'
  · obtain ⟨e2, hne⟩ := wipe_some e2
    have hfr : scope.names.lookup y = some .free := by
      have e3 : Vis cenv.scope y := e3
      rw [hsc] at e3
      have no : ∀ k, scope.names.lookup y = some k → ¬ (k = .local ∨ k = .cell) := fun k e hh => by
        rcases ok.own _ (PySem.mem_of_lookup e) hh with e' | e'
        · obtain ⟨p, hp, hpy⟩ := List.mem_map.mp e'
          have e3 := ok.ix p hp
          have : p.1 = y := hpy
          rw [this] at e3
          exact hne (List.mem_map.mpr ⟨p, hp, nodup_ix hN e3 e1⟩)
        · exact e' (List.mem_of_getElem? e1)
      rcases e3 with e3 | e3 | e3
      · exact absurd (.inl rfl) (no _ e3)
      · exact absurd (.inr rfl) (no _ e3)
      · exact e3
    have hkf : cenv.kindOf y = some .free := by
      unfold Env.kindOf
      rw [hsc]
      exact hfr
    obtain ⟨m, hn, hl⟩ := I.loc
    have hvis : Vis X.env.scope y := (ok.free _ (PySem.mem_of_lookup hfr) rfl).elim (fun k => .inr (.inl k)) (fun k => .inr (.inr k))
    obtain ⟨w, r, q⟩ := hl i y av e1 e2 hvis
    refine ⟨w, r, .inr ⟨.inr hkf, ?_⟩⟩
    obtain ⟨c, h1, h2⟩ := look hfr
    rcases q with ⟨k, _⟩ | ⟨_, c', e', z⟩
    · have k : X.env.scope.names.lookup y = some .local := k
      rcases ok.free _ (PySem.mem_of_lookup hfr) rfl with k' | k' <;> rw [show X.env.scope.names.lookup y = _ from k'] at k <;> cases k
    · rw [h2] at e'; cases e'
      exact ⟨c, h1, z.keeps kp⟩
  · have e : cenv.cells.lookup y = some c := e
    rcases mem e with ⟨h1, _⟩ | ⟨_, z⟩
    · obtain ⟨w, z⟩ := I.cell y c h1
      exact ⟨w, z.keeps kp⟩
    · exact ⟨_, z⟩
  · show H cenv.locals = none
    rw [hL]; exact I.hok.fresh (Nat.le_refl _)
  · have e : cenv.cells.lookup y = some c := e
    rcases mem e with ⟨h1, _⟩ | ⟨h1, _⟩
    · exact I.freeC y c h1
    · exact I.hok.fresh (Nat.le_of_succ_le h1)
  · exact absurd (show p ∈ ([] : List (Addr × Obj)) ++ [] from hp) (by simp)
/-- the table of generators and the heap have grown -/
theorem inv_gens {g' : Array GenState} {t' : Nat} {d' : Drawn} {h' : Heap} (I : Inv X pins σ H s) (k : ∀ b o, s.heap.get? b = some o → h'.get? b = some o) (hg : AllBare g') : Inv X pins σ H { s with heap := h', gens := g', drawn := d', toks := t' } :=
  I.step (ch := []) (fun b hb => absurd hb (by simp)) (fun b o _ _ _ e _ => k b o e) (fun b o _ _ _ e _ => ⟨o.slots, k b o e⟩) (fun _ _ _ _ n => n) (fun b o _ e => ⟨o, k b o e⟩) (fun _ _ e => e) (fun _ _ _ e => e) (fun b ps e => ⟨#[], by rw [e]; simp⟩)
    (fun m hn => hn.keeps k) (I.hok.kept k) hg
theorem over_gen {A : Around} {elt tg iter : Expr} {ifs : List Expr} {scope : Scope} {pos : Pos} {it acc : Value} {env : Env} : A.over (.compLoop (.GeneratorExp elt [⟨tg, iter, ifs, 0⟩] scope pos) 0 it acc env) [] = A.deeper env := by
  first
    | rfl
    | (obtain ⟨hd, d, fr, gs, u⟩ := A; simp [Around.over, Around.deeper, marksOver, frameCount, unitsOf, envsOf, guardsOf, pushEnvs, pushGuards, Code.envs, Code.env?, Code.isFrame, Code.guards, Code.isGuard, Code.weight, Code.frames, Code.isCreation, Code.isCaller, Code.cUnits])
theorem over_gen0 {A : Around} {elt tg iter : Expr} {ifs : List Expr} {scope : Scope} {pos : Pos} {it acc : Value} {env : Env} : A.over (.compStart (.GeneratorExp elt [⟨tg, iter, ifs, 0⟩] scope pos) 0 it acc env) [] = A.deeper env := by
  first
    | rfl
    | (obtain ⟨hd, d, fr, gs, u⟩ := A; simp [Around.over, Around.deeper, marksOver, frameCount, unitsOf, envsOf, guardsOf, pushEnvs, pushGuards, Code.envs, Code.env?, Code.isFrame, Code.guards, Code.isGuard, Code.weight, Code.frames, Code.isCreation, Code.isCaller, Code.cUnits])
end
end GX

namespace GX
open PySem PySem.Spec PyProof.Rows L2 GenW
/-- what a consumer of the items does with one: N is what is wanted where it goes on -/
abbrev Stps (α : Type) := α → V → Hp → (α → Hp → Prop) → Prop
/-- while the generator sleeps: the objects at Ss may be others, all else is kept -/
structure Slp (Ss : List Addr) (s s' : Shared) : Prop where
  os : s'.os = s.os
  bare : AllBare s'.gens
  keep : ∀ b o, b ∉ Ss → s.heap.get? b = some o → s'.heap.get? b = some o
  own : ∀ b ∈ Ss, ∃ o, s'.heap.get? b = some o ∧ ∀ v, o.data ≠ .cell v
/-- the consumer's objects are none of the generator's -/
structure SsOk (Xg : Cx) (gp : Addr × Obj) (fp Ss : List Addr) : Prop where
  all : ∀ b ∈ Ss, Xg.s_0.heap.objs.size ≤ b ∧ b ≠ Xg.env.locals ∧ (∀ x c, Xg.env.cells.lookup x = some c → c ≠ b) ∧ b ∉ fp ∧ b ≠ gp.1
  pn : Xg.pn = []
/-- the generator's state at turn i -/
def GSt (Xg : Cx) (gp : Addr × Obj) (fp : List Addr) (tn : Nat → Heap → Prop) (Ss : List Addr) (σ0 : L2.St) (i : Nat) (H : Hp) (s : Shared) : Prop :=
  ∃ cp : List (Addr × Obj), cp.map (·.1) = Ss ∧ Inv Xg (gp :: cp) σ0 H s ∧ tn i s.heap ∧ ∀ b ∈ fp, H b = none
section
variable {Xg : Cx} {gp : Addr × Obj} {fp : List Addr} {tn : Nat → Heap → Prop} {Ss : List Addr} {σ0 : L2.St} {i : Nat} {H : Hp} {s s' : Shared}
theorem pins_exist : ∀ (Ss : List Addr) (h : Heap), (∀ b ∈ Ss, ∃ o, h.get? b = some o ∧ ∀ v, o.data ≠ .cell v) → ∃ cp : List (Addr × Obj), cp.map (·.1) = Ss ∧ ∀ p ∈ cp, h.get? p.1 = some p.2 ∧ ∀ v, p.2.data ≠ .cell v
  | [], _, _ => ⟨[], rfl, fun _ h => nomatch h⟩
  | b :: r, h, k => by
    obtain ⟨o, e, d⟩ := k b (List.mem_cons_self ..)
    obtain ⟨cp, e1, e2⟩ := pins_exist r h fun x hx => k x (List.mem_cons_of_mem _ hx)
    refine ⟨(b, o) :: cp, by rw [List.map_cons, e1], fun p hp => ?_⟩
    rcases List.mem_cons.mp hp with z | z
    · rw [z]; exact ⟨e, d⟩
    · exact e2 p z
theorem GSt.woken {P : Program} {w : World} {K : PySem.W.Frag} {tg : Expr} {J : It} {it : Addr} (T : Turn P w K tg J fp it tn) (hS : SsOk Xg gp fp Ss) (h : GSt Xg gp fp tn Ss σ0 i H s) (z : Slp Ss s s') : GSt Xg gp fp tn Ss σ0 i H s' := by
  obtain ⟨cp, ecp, I, st, nf⟩ := h
  have free : ∀ b ∈ Ss, H b = none ∧ b ∉ Xg.fs := fun b hb => by
    rw [← ecp] at hb
    obtain ⟨p, hp, rfl⟩ := List.mem_map.mp hb
    obtain ⟨_, h2, _, h4, _⟩ := I.pin p (List.mem_append_right _ (List.mem_cons_of_mem _ hp))
    exact ⟨h2, h4⟩
  obtain ⟨z1, z2, z3, z4⟩ := z
  obtain ⟨hh, g, d, t, o⟩ := s'
  have ho : o = s.os := z1
  subst ho
  have I0 : Inv Xg [gp] σ0 H s := I.pins_of fun p hp => I.pin p (List.mem_append_right _ (by rw [List.mem_singleton.mp hp]; exact List.mem_cons_self ..))
  have nt : ∀ b u, H b = some u → b ∉ Ss := fun b u q hb => by rw [(free b hb).1] at q; cases q
  have J : Inv Xg [gp] σ0 H { s with heap := hh, gens := g, drawn := d, toks := t } := by
    refine I0.step (g' := g) (t' := t) (d' := d) (ch := Ss) (fun b hb => ?_) (fun b ob _ _ hc q _ => z3 b ob hc q) (fun b ob _ _ hc q _ => ⟨ob.slots, z3 b ob hc q⟩) (fun _ _ _ _ n => n) (fun b ob hc q => ⟨ob, z3 b ob hc q⟩)
      (fun _ _ q => q) (fun _ _ _ q => q) (fun b ps q => ⟨#[], by rw [q]; simp⟩) (fun m hm => ?_) (fun b u q => ?_) z2
    · obtain ⟨a1, a2, a3, a4, a5⟩ := hS.all b hb
      refine ⟨.inr a1, a2, a3, fun p hp => ?_⟩
      rw [hS.pn] at hp
      rw [List.mem_singleton.mp hp]
      exact Ne.symm a5
    · obtain ⟨ob, es, ep, ho, r⟩ := hm
      exact ⟨ob, es, ep, z3 _ ob (fun q => (hS.all _ q).2.1 rfl) ho, r⟩
    · refine (I0.hok b u q).stay (fun c v hc y => z3 c v ?_ y) (fun _ y => y) fun _ _ y => y
      rcases hc with y | y
      · rw [y]; exact nt b u q
      · exact nt c _ y
  obtain ⟨cp2, e2, k2⟩ := pins_exist Ss hh z4
  refine ⟨cp2, e2, J.pins_of fun p hp => ?_, T.keep _ _ _ st fun b hb ob e => z3 b ob (fun q => (hS.all b q).2.2.2.1 hb) e, nf⟩
  rcases List.mem_cons.mp hp with hp | hp
  · rw [hp]
    exact J.pin gp (List.mem_append_right _ (List.mem_cons_self ..))
  · have hm : p.1 ∈ Ss := by rw [← e2]; exact List.mem_map_of_mem hp
    exact ⟨(k2 p hp).1, (free _ hm).1, (hS.all _ hm).2.1, (free _ hm).2, (k2 p hp).2⟩
end
section
variable {α : Type} (CRel : α → Heap → Prop) (Stp : Stps α) (Fin : α → Hp → Prop) (Xg : Cx) (gp : Addr × Obj) (fp : List Addr) (tn : Nat → Heap → Prop) (Ss : List Addr) (σ0 : L2.St)
def YG : Protocol := fun _ s₀ v s kap => ∃ (i : Nat) (x : V) (acc : α) (H : Hp) (Nx : α → Hp → Prop), RelV x v ∧ GSt Xg gp fp tn Ss σ0 i H s ∧ CRel acc s₀.heap ∧ (∀ b ∈ Ss, s.heap.get? b = s₀.heap.get? b) ∧ Stp acc x H Nx ∧
  ∀ s' acc', Slp Ss s s' → CRel acc' s'.heap → Nx acc' H → kap (.send .none) s'
def RGp : Shared → Shared → Prop := fun s₀ s => ∃ (acc : α) (H : Hp) (cp : List (Addr × Obj)), cp.map (·.1) = Ss ∧ Inv Xg (gp :: cp) σ0 H s ∧ CRel acc s₀.heap ∧ (∀ b ∈ Ss, s.heap.get? b = s₀.heap.get? b) ∧ Fin acc H
def RG : GenEnd := fun _ s₀ r s => r = .ok .next ∧ RGp CRel Fin Xg gp Ss σ0 s₀ s
/-- the reading of the turns -/
def TurnsR (J : It) (g : TG) (tt : TT) (te : TE) (vs : List Nat) (σ : L2.St) (W : Nat → Nat → α → Hp → Prop) : Prop := ∀ i m a H, W i m a H →
  (J.stop i H ∧ Fin a H) ∨ (J.go i H ∧ ∃ Nx : α → Hp → Prop, (∀ a' H', Nx a' H' → ∃ m', m' < m ∧ W (i + 1) m' a' H') ∧ ∀ x H', J.yld i H x H' → g x (wipe σ vs) H' fun σ2 H2 => wipe σ2 vs = wipe σ vs ∧ tt σ2 H2 fun b H3 =>
    if b = true then te σ2 H3 fun y H4 => Stp a y H4 Nx else Nx a H3)
end
section
variable {α : Type} {CRel : α → Heap → Prop} {Stp : Stps α} {Fin : α → Hp → Prop} {Xg : Cx} {gp : Addr × Obj} {fp : List Addr} {tn : Nat → Heap → Prop} {Ss : List Addr} {σ : L2.St}
theorem gx_loop {B : Around} {tg elt iter : Expr} {ifs : List Expr} {scope : Scope} {gpos : Pos} {it : Addr} {J : It} {g : TG} {tt : TT} {te : TE} {vs : List Nat} {W : Nat → Nat → α → Hp → Prop} (hov : B.deeper Xg.env = Xg.A) (hc : Xg.calm = true) (hco : Xg.env.scope.isCoroutine = false) (hxe : Xg.xe = fun _ _ => False)
    (T : Turn Xg.prog Xg.w Xg.K tg J fp it tn) (hfp : ∀ b ∈ fp, ∀ H', H' b = none → FpOk Xg [] H' b) (hS : SsOk Xg gp fp Ss) (hgf : gp.1 ∉ fp) (hg : PG Xg tg g) (ht : PTs Xg ifs tt) (he : PE Xg elt te) (turn : TurnsR Stp Fin J g tt te vs σ W) :
    ∀ (m n i : Nat) (acc : α) (H : Hp) (s₀ s : Shared), m < n → W i m acc H → CRel acc s₀.heap → (∀ b ∈ Ss, s.heap.get? b = s₀.heap.get? b) → GSt Xg gp fp tn Ss (wipe σ vs) i H s →
      Seg (model Xg.prog Xg.w) B (RG CRel Fin Xg gp Ss (wipe σ vs)) (YG CRel Stp Xg gp fp tn Ss (wipe σ vs)) n s₀ (.compLoop (.GeneratorExp elt [⟨tg, iter, ifs, 0⟩] scope gpos) 0 (.ref it) .none Xg.env)
        ((model Xg.prog Xg.w).den (.compLoop (.GeneratorExp elt [⟨tg, iter, ifs, 0⟩] scope gpos) 0 (.ref it) .none Xg.env)) [] s := by
  have hover : B.over (.compLoop (.GeneratorExp elt [⟨tg, iter, ifs, 0⟩] scope gpos) 0 (.ref it) .none Xg.env) [] = Xg.A := over_gen.trans hov
  intro m
  induction m using Nat.strongRecOn with
  | ind m ih =>
    intro n i acc H s₀ s hmn w crel ksS hst
    obtain ⟨cp, ecp, I, st, nf⟩ := hst
    have fpOk : ∀ {pins : List (Addr × Obj)} {σ' : L2.St} {H' : Hp} {s' : Shared}, pins.map (·.1) = gp.1 :: Ss → Inv Xg pins σ' H' s' → (∀ b ∈ fp, H' b = none) → ∀ b ∈ fp, FpOk Xg pins H' b := fun {pins σ' H' s'} ep I' hn b hb => by
      obtain ⟨a0, a1, a2, a3, a4, _⟩ := hfp b hb H' (hn b hb)
      refine ⟨a0, a1, a2, a3, a4, fun p hp z => ?_⟩
      rw [hS.pn, List.nil_append] at hp
      have hm : p.1 ∈ gp.1 :: Ss := by rw [← ep]; exact List.mem_map_of_mem hp
      rcases List.mem_cons.mp hm with q | q
      · rw [z] at q; exact hgf (q ▸ hb)
      · rw [z] at q; exact (hS.all b q).2.2.2.1 hb
    have epin : (gp :: cp).map (·.1) = gp.1 :: Ss := by rw [List.map_cons, ecp]
    have ownSs : ∀ {extra : List (Addr × Obj)} {σ' : L2.St} {H' : Hp} {s' : Shared}, Inv Xg ((gp :: cp) ++ extra) σ' H' s' → ∀ b ∈ Ss, s'.heap.get? b = s₀.heap.get? b := fun {extra σ' H' s'} I' b hb => by
      rw [← ksS b hb]
      rw [← ecp] at hb
      obtain ⟨p, hp, rfl⟩ := List.mem_map.mp hb
      rw [(I'.pin p (List.mem_append_right _ (List.mem_append_left _ (List.mem_cons_of_mem _ hp)))).1, (I.pin p (List.mem_append_right _ (List.mem_cons_of_mem _ hp))).1]
    have I := I
    show Seg _ B _ _ _ s₀ _ ((compTurn (.GeneratorExp elt [⟨tg, iter, ifs, 0⟩] scope gpos) 0 (.ref it) .none Xg.env).onRaise (leaving Xg.env)) [] s
    rw [compTurn_gen, Sem.onRaise_eq_wrap]
    refine seg_bind_wrap (wpAny_standAt ?_)
    rcases turn i m acc H w with ⟨stop, qf⟩ | ⟨go, Nx, hNx, step⟩
    · refine seg_bind_wrap ?_
      rw [hover]
      refine wpAny_mono (T.done Xg rfl rfl rfl hc i (gp :: cp) s (wipe σ vs) H (fun _ _ => False) I (fpOk epin I nf) st stop) (fun r s1 ⟨hr, I1⟩ => ?_) fun _ _ z => z.elim
      subst hr
      exact seg_end (.ok .next) ⟨rfl, acc, H, cp, ecp, I1, crel, ownSs (extra := []) (by rw [List.append_nil]; exact I1), qf⟩
    · refine seg_bind_wrap ?_
      rw [hover]
      refine wpAny_mono (T.item Xg rfl rfl rfl hc i (gp :: cp) s (wipe σ vs) H (fun _ _ => False) I (fpOk epin I nf) st go) (fun r s1 ⟨u, hr, h1⟩ => ?_) fun _ _ z => z.elim
      subst hr
      refine seg_bind_wrap ?_
      rw [hover]
      refine wpAny_mono h1 (fun _ s2 ⟨x, H2, I2, rx, y2, st2, n2⟩ => ?_) fun _ _ z => z.elim
      have I2' := I2.pinned (fpOk epin I2 n2) (T.obj _ _ st2)
      have hxe' : ∀ {α : Type} {t : Sem α} {Q : α → Shared → Prop} {E : Value → Shared → Prop} {s : Shared}, wpAny (model Xg.prog Xg.w) Xg.A t Q Xg.xe s → wpAny (model Xg.prog Xg.w) Xg.A t Q E s := fun h => wpAny_mono h (fun _ _ z => z) fun _ _ z => by rw [hxe] at z; exact z.elim
      refine seg_bind_wrap ?_
      rw [hover]
      refine wpAny_mono (hxe' (hg.run _ s2 (wipe σ vs) H2 x u _ I2' rx (step x H2 y2))) (fun _ s3 ⟨σ3, H3, I3, hw3, q3⟩ => ?_) fun _ _ z => z
      refine seg_bind_wrap ?_
      rw [hover]
      refine wpAny_mono (hxe' (ht.run _ s3 σ3 H3 _ I3 q3)) (fun b s4 ⟨H4, I4, q4⟩ => ?_) fun _ _ z => z
      -- the turn's end
      have fin : ∀ {s' : Shared} {H' : Hp}, Inv Xg ((gp :: cp) ++ pinsAt fp s2.heap) σ3 H' s' → GSt Xg gp fp tn Ss (wipe σ vs) (i + 1) H' s' := fun {s' H'} I' => by
        have pin' : ∀ b ∈ fp, ∀ o, s2.heap.get? b = some o → s'.heap.get? b = some o ∧ H' b = none := fun b hb o e =>
          let z := I'.pin (b, o) (List.mem_append_right _ (List.mem_append_right _ (mem_pinsAt hb e)))
          ⟨z.1, z.2.1⟩
        have hl : (wipe σ vs).length = σ3.length := by rw [← hw3, wipe_length]
        refine ⟨cp, ecp, (I'.unpinned (pins := gp :: cp)).weak hl (fun j v e => ?_), T.keep _ _ _ st2 fun b hb o e => (pin' b hb o e).1, fun b hb => ?_⟩
        · rw [← hw3] at e
          exact (wipe_some e).1
        · obtain ⟨o, e, _⟩ := T.obj _ _ st2 b hb
          exact (pin' b hb o e).2
      cases b with
      | false =>
        simp only [Bool.false_eq_true, if_false] at q4 ⊢
        obtain ⟨m', hm, w'⟩ := hNx _ _ q4
        exact seg_again rfl (ih m' hm n (i + 1) acc H4 s₀ s4 (by omega) w' crel (ownSs I4) (fin I4))
      | true =>
        simp only [if_true] at q4 ⊢
        have hy : ∀ v, yieldOut Xg.env v = yieldValue v := fun v => by simp only [yieldOut, hco, Bool.false_eq_true, if_false]
        simp only [hy]
        obtain ⟨n', rfl⟩ : ∃ n', n = n' + 1 := ⟨n - 1, by omega⟩
        rw [Sem.bind_eq_wrap', Sem.bind_eq_wrap', Sem.wrap_wrap, Sem.wrap_wrap]
        refine seg_wrap ?_
        rw [hover]
        refine wpAny_mono (hxe' (he.run _ s4 σ3 H4 _ I4 q4)) (fun yv s5 ⟨y, H5, I5, ry, q5⟩ => ?_) fun _ _ z => z
        refine seg_at (seg_yield rfl rfl rfl ⟨i + 1, y, acc, H5, Nx, ry, fin I5, crel, ownSs I5, q5, fun s6 acc' sl cr nx => ?_⟩)
        obtain ⟨m', hm, w'⟩ := hNx _ _ nx
        exact seg_again rfl (ih m' hm n' (i + 1) acc' H5 s6 s6 (by omega) w' cr (fun _ _ => rfl) ((fin I5).woken T hS sl))
end
end GX

namespace GX
open PySem PySem.Spec PyProof.Rows L2 GenW
section
variable {X : Cx} {pins : List (Addr × Obj)} {σ : L2.St} {H : Hp} {s : Shared}
/-- the generator is made: at a, its frame laid, its first turn not begun; s3: the state ahead of its frame -/
structure Made (X : Cx) (pins : List (Addr × Obj)) (σ : L2.St) (tg elt iter : Expr) (ifs : List Expr) (scope : Scope) (gpos : Pos) (own : List (Str × Nat)) (J : It) (code : Value) (H3 : Hp) (s3 : Shared) (it : Addr) (fp : List Addr) (tn : Nat → Heap → Prop) (a : Addr) (g : Nat) (gob : Obj) (s5 : Shared) : Prop where
  inv : Inv X pins σ H3 s3
  turn : Turn X.prog X.w X.K tg J fp it tn
  fps : ∀ b ∈ fp, FpOk X pins H3 b ∧ b < s3.heap.objs.size
  st : tn 0 s5.heap
  ag : s3.heap.objs.size ≤ a
  get : s5.heap.get? a = some gob
  obj : gob.cls = .type "generator" ∧ (∃ nm qn, gob.data = .fields #[.int g 0, nm, qn]) ∧ gob.slots = #[]
  gen : s5.gens[g]? = some (.fresh (.compStart (.GeneratorExp elt [⟨tg, iter, ifs, 0⟩] scope gpos) 0 (.ref it) .none (gEnv X scope s3 code)))
  sub : ∀ B : Around, BOk X B (gEnv X scope s3 code) → Inv (gcx X B s3 H3 scope (gEnv X scope s3 code) fp) [(a, gob)] (wipe σ (own.map (·.2))) H3 s5
theorem Made.isGen {tg elt iter : Expr} {ifs : List Expr} {scope : Scope} {gpos : Pos} {own : List (Str × Nat)} {J : It} {code : Value} {H3 : Hp} {s3 : Shared} {it : Addr} {fp : List Addr} {tn : Nat → Heap → Prop} {a : Addr} {g : Nat} {gob : Obj} {s5 : Shared} (M : Made X pins σ tg elt iter ifs scope gpos own J code H3 s3 it fp tn a g gob s5)
    {h : Heap} (e : h.get? a = some gob) : h.IsGen a g := let ⟨h1, ⟨nm, qn, h2⟩, h3⟩ := M.obj; ⟨gob, nm, qn, e, h1, h2, h3⟩
theorem gx_eval {tg elt iter : Expr} {ifs : List Expr} {scope : Scope} {gpos : Pos} {own : List (Str × Nat)} {ti : TI} {tc : TC} {P0 : Addr} {k : Nat} {Want : It → Value → Hp → Prop} {Q' : Value → Shared → Prop} (I : Inv X pins σ H s) (hN : X.N.Nodup) (room : Room k X.A) (hi : PI X tg iter ti) (hpc : PC X gpos scope tc) (BA : X.base.BuiltinsAt X.mg P0) (ok : GOk X.N X.env.scope scope own)
    (hs : ∀ v, genFold iter X.env v = pure v) (h : ti σ H fun J H1 => tc σ H1 fun code H2 => Want J code H2)
    (fin : ∀ J code H3 s3 it fp tn a g gob s5, Want J code H3 → Made X pins σ tg elt iter ifs scope gpos own J code H3 s3 it fp tn a g gob s5 → Q' (.ref a) s5) :
    wpAny (model X.prog X.w) X.A (eval (.GeneratorExp elt [⟨tg, iter, ifs, 0⟩] scope gpos) X.env) Q' X.xe s := by
  have hfree : ∀ y ∈ scope.names, y.2 = .free → ∃ c, X.env.cells.lookup y.1 = some c := fun y hy e => by
    rcases ok.blk.free y hy e with k | k
    · exact I.ok.has _ (.inl k)
    · exact I.ok.has _ (.inr k)
  have deep : X.A.depth < recursionLimit := by have := room.dp; omega
  rw [eval_GeneratorExp1 _ _ _ _ _ _ _ ok.co, closure_ok hfree]
  refine wpAny_bind (thn (hi.run pins s σ H _ I h) fun xv s1 h1 => ?_)
  refine wpAny_bind (wpAny_standAt ?_)
  refine wpAny_bind (wpAny_of_eq (hs xv) ?_)
  refine wpAny_bind (wpAny_holding (thn h1 fun itv s2 h2 => ?_))
  obtain ⟨it, fp, tn, J, H2, e, I2, T, st2, f2, q2⟩ := h2
  subst e
  refine wpAny_bind (wpAny_enterFrame I2.nolimit deep ?_)
  refine wpAny_bind (wpAny_pure ?_)
  have sz : ∀ b ∈ fp, b < s2.heap.objs.size := fun b hb => by
    obtain ⟨o, e, _⟩ := T.obj _ _ st2 b hb
    exact Heap.lt_size e
  have I2' := I2.pinned f2 (T.obj _ _ st2)
  refine wpAny_bind (thn (hpc.run _ s2 σ H2 _ _ I2' q2) fun code s3 ⟨H3, I3', le3, want⟩ => ?_)
  have pin3 : ∀ b ∈ fp, ∀ o, s2.heap.get? b = some o → s3.heap.get? b = some o ∧ H3 b = none := fun b hb o e =>
    let z := I3'.pin (b, o) (List.mem_append_right _ (List.mem_append_right _ (mem_pinsAt hb e)))
    ⟨z.1, z.2.1⟩
  have I3 : Inv X pins σ H3 s3 := I3'.unpinned
  have st3 : tn 0 s3.heap := T.keep _ _ _ st2 fun b hb o e => (pin3 b hb o e).1
  have f3 : ∀ b ∈ fp, FpOk X pins H3 b ∧ b < s3.heap.objs.size := fun b hb => by
    obtain ⟨o, e, _⟩ := T.obj _ _ st2 b hb
    exact ⟨⟨(pin3 b hb o e).2, (f2 b hb).2⟩, Heap.lt_size (pin3 b hb o e).1⟩
  obtain ⟨bm, ob, b1, b2, _, _, b3, b4, b5, b6⟩ := BA
  have glob : s3.heap.Ns X.env.globals X.mg := by rw [I3.ok.glob]; exact I3.mod.glob.keeps I3.bk
  refine wpAny_bind (wpAny_builtinsFor (m := X.mg) glob b1 b2 (I3.bk bm ob b3) b4 b5 b6 ?_)
  refine wpAny_bind (newGenEnv (s := s3) ok.blk.kind ok.dot fun h' hn' hs' => ?_)
  simp only [newGenerator, newFields]
  refine wpAny_bind (wpAny_newGen (wpAny_bind (wpAny_mkText (wpAny_bind (wpAny_mkText (wpAny_newObj_type ?_ (by size_fits)))))))
  have kp0 : ∀ b o, s3.heap.get? b = some o → h'.get? b = some o := fun b o e => hs'.extBut b o (Nat.ne_of_lt (Heap.lt_size e)) (pushCells_keeps _ _ _ _ (Heap.get?_push_of_some _ e))
  have hsz : s3.heap.objs.size < h'.objs.size := hn'.lt
  refine fin J code H3 s3 it fp tn h'.objs.size s3.gens.size _ _ want ⟨I3, T, f3, ?_, Nat.le_of_lt hsz, Heap.get?_push_size _ rfl, ⟨rfl, ⟨_, _, rfl⟩, rfl⟩, Array.getElem?_push_size .., fun B hB => ?_⟩
  · exact T.keep _ _ _ st3 fun b _ o e => Heap.get?_push_of_some _ (kp0 b o e)
  · have I4 := gx_start (t' := s3.toks + 1) (it := .ref it) I3 ok hN f3 hB hn' hs'
    have I5 := inv_gens (g' := s3.gens.push (.fresh (.compStart (.GeneratorExp elt [⟨tg, iter, ifs, 0⟩] scope gpos) 0 (.ref it) .none (gEnv X scope s3 code)))) (d' := s3.drawn) (t' := s3.toks + 1 + 1 + 1) (h' := h'.push { cls := .type "generator", data := .fields #[.int s3.gens.size 0, .str "<genexpr>" (s3.toks + 1), .str (X.env.qual ++ "<genexpr>") (s3.toks + 1 + 1)] }) I4 (fun b o e => Heap.get?_push_of_some _ e) (I3.bare.push rfl)
    refine I5.pins_of fun p hp => ?_
    rw [List.mem_singleton.mp hp]
    have nw : H3 h'.objs.size = none := I4.hok.fresh (Nat.le_refl _)
    exact ⟨Heap.get?_push_size _ rfl, nw, Nat.ne_of_gt I4.lt, I4.nofs (Nat.le_refl _), fun v z => by cases z⟩
end
end GX

namespace GX
open PySem PySem.Spec PyProof.Rows L2 GenW
section
variable {X : Cx} {pins : List (Addr × Obj)} {σ : L2.St} {tg elt iter : Expr} {ifs : List Expr} {scope : Scope} {gpos : Pos} {own : List (Str × Nat)} {J : It} {code : Value} {H3 : Hp} {s3 : Shared} {it : Addr} {fp : List Addr} {tn : Nat → Heap → Prop} {a : Addr} {g : Nat} {gob : Obj} {s5 : Shared}
/-- back in the def's context -/
theorem Made.back (M : Made X pins σ tg elt iter ifs scope gpos own J code H3 s3 it fp tn a g gob s5) {B : Around} {ps : List (Addr × Obj)} {σ' : L2.St} {H : Hp} {s1 s' : Shared} (I1 : Inv (gcx X B s3 H3 scope (gEnv X scope s3 code) fp) ps σ' H s1) (ho : s'.os = s1.os) (hb : AllBare s'.gens) (k : ∀ b o, s1.heap.get? b = some o → s'.heap.get? b = some o) : Inv X pins σ H s' := by
  refine M.inv.call' (ch := fp) (ho.trans I1.os) (I1.base.trans (Un.kept k)) (I1.hok.kept k) hb fun b hb => ?_
  have f := (M.fps b hb).1
  exact ⟨f.2.2.2.1, f.2.1, f.2.2.2.2.1, f.2.2.2.2.2⟩
abbrev Made.cx (_ : Made X pins σ tg elt iter ifs scope gpos own J code H3 s3 it fp tn a g gob s5) (A : Around) : Cx := gcx X (A.deeper (gEnv X scope s3 code)) s3 H3 scope (gEnv X scope s3 code) fp
theorem Made.bok (_ : Made X pins σ tg elt iter ifs scope gpos own J code H3 s3 it fp tn a g gob s5) {A : Around} (hd : A.handled = none) (hf : A.frames = some X.stack) : BOk X (A.deeper (gEnv X scope s3 code)) (gEnv X scope s3 code) := ⟨hd, Around.frames_deeper hf⟩
theorem Made.ss (M : Made X pins σ tg elt iter ifs scope gpos own J code H3 s3 it fp tn a g gob s5) {A : Around} (hB : BOk X (A.deeper (gEnv X scope s3 code)) (gEnv X scope s3 code)) {Ss : List Addr} (h : ∀ b ∈ Ss, s5.heap.objs.size ≤ b) : SsOk (M.cx A) (a, gob) fp Ss := by
  have I5 := M.sub _ hB
  refine ⟨fun b hb => ?_, rfl⟩
  have lt := h b hb
  refine ⟨Nat.le_trans I5.sz lt, Nat.ne_of_gt (Nat.lt_of_lt_of_le I5.lt lt), fun x c e z => ?_, fun z => ?_, fun z => ?_⟩
  · obtain ⟨v, q⟩ := I5.cell x c e
    have := q.lt
    rw [z] at this
    exact Nat.lt_irrefl _ (Nat.lt_of_lt_of_le this lt)
  · have := (M.fps b z).2
    exact Nat.lt_irrefl _ (Nat.lt_of_lt_of_le this (Nat.le_trans I5.sz lt))
  · have e := M.get
    have z : b = a := z
    rw [← z] at e
    exact Nat.lt_irrefl _ (Nat.lt_of_lt_of_le (Heap.lt_size e) lt)
/-- the first turn -/
theorem Made.wake (M : Made X pins σ tg elt iter ifs scope gpos own J code H3 s3 it fp tn a g gob s5) {α : Type} {CRel : α → Heap → Prop} {Stp : Stps α} {Fin : α → Hp → Prop} {Ss : List Addr} {g' : TG} {tt : TT} {te : TE} {W : Nat → Nat → α → Hp → Prop} {A : Around} {m0 n : Nat} {a0 : α} {s2 : Shared}
    (hco : scope.isCoroutine = false) (hd : A.handled = none) (hf : A.frames = some X.stack) (hg : PG (M.cx A) tg g') (ht : PTs (M.cx A) ifs tt) (he : PE (M.cx A) elt te) (turn : TurnsR Stp Fin J g' tt te (own.map (·.2)) σ W) (w0 : W 0 m0 a0 H3) (hmn : m0 < n)
    (ho : s2.os = s5.os) (hb : AllBare s2.gens) (hk : ∀ b o, s5.heap.get? b = some o → s2.heap.get? b = some o) (hS : ∀ b ∈ Ss, s5.heap.objs.size ≤ b ∧ ∃ o, s2.heap.get? b = some o ∧ ∀ v, o.data ≠ .cell v) (cr : CRel a0 s2.heap) :
    Seg (model X.prog X.w) A (RG CRel Fin (M.cx A) (a, gob) Ss (wipe σ (own.map (·.2)))) (YG CRel Stp (M.cx A) (a, gob) fp tn Ss (wipe σ (own.map (·.2)))) n s2 (.compStart (.GeneratorExp elt [⟨tg, iter, ifs, 0⟩] scope gpos) 0 (.ref it) .none (gEnv X scope s3 code))
      ((model X.prog X.w).den (.compStart (.GeneratorExp elt [⟨tg, iter, ifs, 0⟩] scope gpos) 0 (.ref it) .none (gEnv X scope s3 code))) [] s2 := by
  have hB := M.bok hd hf
  have I5 := M.sub _ hB
  have SO := M.ss hB fun b hb => (hS b hb).1
  have hgf : a ∉ fp := fun z => Nat.lt_irrefl _ (Nat.lt_of_lt_of_le (M.fps a z).2 M.ag)
  have fpOk : ∀ b ∈ fp, ∀ H' : Hp, H' b = none → FpOk (M.cx A) [] H' b := fun b hb H' hn => by
    refine ⟨hn, (I5.ok.exf b hb).1, I5.ok.exfs b hb, .inl hb, fun x c e => (I5.ok.exf b hb).2 x c e, fun p hp => absurd (show p ∈ ([] : List (Addr × Obj)) ++ [] from hp) (by simp)⟩
  have I2 : Inv (M.cx A) [(a, gob)] (wipe σ (own.map (·.2))) H3 s2 := by
    have J := inv_gens (g' := s2.gens) (d' := s2.drawn) (t' := s2.toks) I5 hk hb
    rw [GxR.sh_eta s5 s2 ho] at J
    exact J
  obtain ⟨cp, ecp, hcp⟩ := pins_exist Ss s2.heap fun b hb => (hS b hb).2
  have st2 : GSt (M.cx A) (a, gob) fp tn Ss (wipe σ (own.map (·.2))) 0 H3 s2 := by
    refine ⟨cp, ecp, I2.pins_of fun p hp => ?_, M.turn.keep _ _ _ M.st fun b _ o e => hk b o e, fun b hb => (M.fps b hb).1.1⟩
    rcases List.mem_cons.mp hp with z | z
    · rw [z]
      exact I2.pin (a, gob) (List.mem_append_right _ (List.mem_cons_self ..))
    · have hm : p.1 ∈ Ss := by rw [← ecp]; exact List.mem_map_of_mem z
      have lt := (hS _ hm).1
      exact ⟨(hcp p z).1, I5.hok.fresh lt, (SO.all _ hm).2.1, I5.nofs lt, (hcp p z).2⟩
  have loop := gx_loop (iter := iter) (gpos := gpos) (B := A) (CRel := CRel) (Xg := M.cx A) (scope := scope) (it := it) rfl rfl hco rfl M.turn fpOk SO hgf hg ht he turn m0 n 0 a0 H3 s2 s2 hmn w0 cr (fun _ _ => rfl) st2
  have hover : A.over (.compStart (.GeneratorExp elt [⟨tg, iter, ifs, 0⟩] scope gpos) 0 (.ref it) .none (gEnv X scope s3 code)) [] = A.deeper (gEnv X scope s3 code) := over_gen0
  show Seg _ A _ _ _ s2 _ ((compStart (.GeneratorExp elt [⟨tg, iter, ifs, 0⟩] scope gpos) 0 (.ref it) .none (gEnv X scope s3 code)).onRaise (leaving (gEnv X scope s3 code))) [] s2
  unfold compStart
  rw [Sem.onRaise_eq_wrap]
  show Seg _ A _ _ _ s2 _ ((ask >>= _).wrap _ _ _ _) [] s2
  have st := M.turn.keep _ _ _ M.st fun b _ o e => hk b o e
  refine seg_bind_wrap (wpAny_askSetting ?_)
  split
  · exact seg_again rfl loop
  · first
      | exact seg_bind_wrap (wpAny_rule (seg_bind_wrap (wpAny_standAt (seg_bind_wrap (M.turn.self _ 0 s2 _ _ st (seg_again rfl loop))))))
      | (refine seg_bind_wrap (wpAny_rule ?_); show Seg _ A _ _ _ s2 _ ((standAt iter.pos >>= _).wrap _ _ _ _) [] s2; exact seg_bind_wrap (wpAny_standAt (seg_bind_wrap (M.turn.self _ 0 s2 _ _ st (seg_again rfl loop)))))
/-- next -/
theorem Made.next (M : Made X pins σ tg elt iter ifs scope gpos own J code H3 s3 it fp tn a g gob s5) {α : Type} {CRel : α → Heap → Prop} {Stp : Stps α} {Fin : α → Hp → Prop} {Ss : List Addr} {σ0 : L2.St} {A : Around} {n : Nat} {s : Shared} {gs : GenState} {Qo : Option Value → Shared → Prop} {E : Value → Shared → Prop}
    (hh : A.handled = none) (hdp : A.depth < recursionLimit) (hG : s.heap.get? a = some gob) (hl : s.heap.NoLimit) (hgs : s.gens[g]? = some gs)
    (hgo : gs.Goes (model X.prog X.w) A.in1 (RG CRel Fin (M.cx A.in1) (a, gob) Ss σ0) (YG CRel Stp (M.cx A.in1) (a, gob) fp tn Ss σ0) n (.send .none) (s.setGen g .running))
    (hY : ∀ v s1 gs' i x acc H Nx, gs'.bare = true → RelV x v → GSt (M.cx A.in1) (a, gob) fp tn Ss σ0 i H s1 → CRel acc s.heap → (∀ b ∈ Ss, s1.heap.get? b = s.heap.get? b) → Stp acc x H Nx → g < s1.gens.size →
      (∀ s' acc', Slp Ss s1 s' → CRel acc' s'.heap → Nx acc' H → ∃ n', n = n' + 1 ∧ gs'.Goes (model X.prog X.w) A.in1 (RG CRel Fin (M.cx A.in1) (a, gob) Ss σ0) (YG CRel Stp (M.cx A.in1) (a, gob) fp tn Ss σ0) n' (.send .none) s') → Qo (some v) (s1.setGen g gs'))
    (hP : ∀ s1 h', RGp CRel Fin (M.cx A.in1) (a, gob) Ss σ0 (s.setGen g .running) s1 → (∀ b o, s1.heap.get? b = some o → h'.get? b = some o) → Qo none { s1.setGen g .finished with heap := h' }) :
    wpAny (model X.prog X.w) A (pyNext (.ref a)) Qo E s := by
  have hgl : g < s.gens.size := (Array.getElem?_eq_some_iff.mp hgs).1
  refine wpAny_mono (wpAny_gsz (n := g + 1) hgl (wpAny_pyNext_genexpQ (n := n) (P := fun _ => RGp CRel Fin (M.cx A.in1) (a, gob) Ss σ0) (Y := YG CRel Stp (M.cx A.in1) (a, gob) fp tn Ss σ0) (Q := fun r s' => g + 1 ≤ s'.gens.size → Qo r s') (E := fun e s' => g + 1 ≤ s'.gens.size → E e s') hh hl hdp (M.isGen hG) hgs hgo (fun v s1 gs' hb hv hsz => ?_) (fun s1 hp h' hk _ => hP s1 h' hp hk))) (fun _ _ z => z) (fun _ _ z => z)
  obtain ⟨i, x, acc, H, Nx, rx, st, cr, ks, sp, kap⟩ := hv
  have hsz1 : g < s1.gens.size := by
    have q : (s1.setGen g gs').gens.size = s1.gens.size := setGen_size _ _ _
    omega
  refine hY v s1 gs' i x acc H Nx hb rx st cr ks sp hsz1 fun s' acc' sl cr' nx => ?_
  have z := kap s' acc' sl cr' nx
  cases n with
  | zero => exact z.elim
  | succ n' => exact ⟨n', rfl, z⟩
end
end GX

namespace GX
open PySem PySem.Spec PyProof.Rows L2 GenW
def stAll (Q : VK) : Stps Unit := fun _ y H N => ∃ b, y = .bl b ∧ if b = true then N () H else Q (.bl false) H
def fiAll (Q : VK) : Unit → Hp → Prop := fun _ H => Q (.bl true) H
def stAny (Q : VK) : Stps Unit := fun _ y H N => ∃ b, y = .bl b ∧ if b = true then Q (.bl true) H else N () H
def fiAny (Q : VK) : Unit → Hp → Prop := fun _ H => Q (.bl false) H
def stSum (Q : VK) : Stps Int := fun acc y H N => ∃ i, y = .int i ∧ N (acc + i) H
def fiSum (Q : VK) : Int → Hp → Prop := fun acc H => Q (.int acc) H
def crU : Unit → Heap → Prop := fun _ _ => True
abbrev lstO (xs : Array Value) (c : Nat) : Obj := { cls := .type "list", dict := none, data := .seq xs c, slots := #[] }
def crSum (S : Addr) : Int → Heap → Prop := fun acc h => ∃ t c, h.get? S = some (lstO #[.int acc t] c)
section
variable {X : Cx} {pins : List (Addr × Obj)} {σ : L2.St} {tg elt iter : Expr} {ifs : List Expr} {scope : Scope} {gpos : Pos} {own : List (Str × Nat)} {J : It} {code : Value} {H3 : Hp} {s3 : Shared} {it : Addr} {fp : List Addr} {tn : Nat → Heap → Prop} {a : Addr} {g : Nat} {gob : Obj} {s5 : Shared}
theorem gst_get {Xg : Cx} {gp : Addr × Obj} {fp : List Addr} {tn : Nat → Heap → Prop} {Ss : List Addr} {σ0 : L2.St} {i : Nat} {H : Hp} {s : Shared} (h : GSt Xg gp fp tn Ss σ0 i H s) : s.heap.get? gp.1 = some gp.2 ∧ s.heap.NoLimit ∧ AllBare s.gens ∧ ∀ b ∈ Ss, H b = none := by
  obtain ⟨cp, ecp, I, _, _⟩ := h
  refine ⟨(I.pin gp (List.mem_append_right _ (List.mem_cons_self ..))).1, I.nolimit, I.bare, fun b hb => ?_⟩
  rw [← ecp] at hb
  obtain ⟨p, hp, rfl⟩ := List.mem_map.mp hb
  exact (I.pin p (List.mem_append_right _ (List.mem_cons_of_mem _ hp))).2.1
theorem Made.all_loop (M : Made X pins σ tg elt iter ifs scope gpos own J code H3 s3 it fp tn a g gob s5) {A : Around} {σ0 : L2.St} {R : Result → Shared → Prop} {Q : VK} (hh : A.handled = none) (hdp : A.depth < recursionLimit)
    (hret : ∀ v u H s', Inv X pins σ H s' → RelV v u → Q v H → R (.ok (.ret u)) s') : ∀ (n : Nat) (s : Shared) (gs : GenState), s.heap.get? a = some gob → s.heap.NoLimit → s.gens[g]? = some gs →
    gs.Goes (model X.prog X.w) A.in1.in1 (RG crU (fiAll Q) (M.cx A.in1.in1) (a, gob) [] σ0) (YG crU (stAll Q) (M.cx A.in1.in1) (a, gob) fp tn [] σ0) n (.send .none) (s.setGen g .running) →
    codeAny (model X.prog X.w) A (.builtin "all.loop" ⟨[.ref a], []⟩) R s := by
  intro n
  induction n with
  | zero =>
    intro s gs hG hl hgs hgo
    refine codeAny_builtin F.entry_all_loop ?_
    rw [Around.under_plainId F.plain_all_loop _]
    show wpAny _ A.in1 (pyNext (.ref a) >>= _) _ _ s
    refine wpAny_bind (M.next (A := A.in1) hh hdp hG hl hgs hgo (fun v s1 gs' i x acc H Nx hb rx st cr ks sp hsz kap => ?_) (fun s1 h' hp hk => ?_))
    · obtain ⟨b, rfl, q⟩ := sp
      cases rx
      refine wpAny_bind (wpAny_holding (wpAny_truthy_bool ?_))
      refine wpAny_bind (wpAny_letGo ?_)
      obtain ⟨_, _, bare, _⟩ := gst_get st
      cases b with
      | true =>
        simp only [if_true] at q
        obtain ⟨n', hn, _⟩ := kap s1 () ⟨rfl, bare, fun _ _ _ e => e, fun _ h => nomatch h⟩ trivial q
        omega
      | false =>
        simp only [Bool.false_eq_true, if_false] at q ⊢
        obtain ⟨cp, _, I1, _, _⟩ := st
        exact wpAny_bind (wpAny_rule (wpAny_pure (hret (.bl false) _ H _ (M.back I1 rfl (allBare_setGen bare hb) fun _ _ e => e) rfl q)))
    · obtain ⟨acc, H, cp, _, I1, _, _, q⟩ := hp
      exact wpAny_bind (wpAny_rule (wpAny_pure (hret (.bl true) _ H _ (M.back I1 rfl (allBare_setGen I1.bare rfl) hk) rfl q)))
  | succ n ih =>
    intro s gs hG hl hgs hgo
    refine codeAny_builtin F.entry_all_loop ?_
    rw [Around.under_plainId F.plain_all_loop _]
    show wpAny _ A.in1 (pyNext (.ref a) >>= _) _ _ s
    refine wpAny_bind (M.next (A := A.in1) hh hdp hG hl hgs hgo (fun v s1 gs' i x acc H Nx hb rx st cr ks sp hsz kap => ?_) (fun s1 h' hp hk => ?_))
    · obtain ⟨b, rfl, q⟩ := sp
      cases rx
      refine wpAny_bind (wpAny_holding (wpAny_truthy_bool ?_))
      refine wpAny_bind (wpAny_letGo ?_)
      obtain ⟨eG, nl, bare, _⟩ := gst_get st
      cases b with
      | true =>
        simp only [if_true] at q ⊢
        obtain ⟨n', hn, go'⟩ := kap ((s1.setGen g gs').setGen g .running) () ⟨rfl, allBare_setGen (s := s1.setGen g gs') (allBare_setGen bare hb) rfl, fun _ _ _ e => e, fun _ h => nomatch h⟩ trivial q
        obtain rfl : n' = n := by omega
        exact wpAny_pure ⟨plainId_quiet F.plain_all_loop _, ih _ gs' eG nl (setGen_at hsz) go'⟩
      | false =>
        simp only [Bool.false_eq_true, if_false] at q ⊢
        obtain ⟨cp, _, I1, _, _⟩ := st
        exact wpAny_bind (wpAny_rule (wpAny_pure (hret (.bl false) _ H _ (M.back I1 rfl (allBare_setGen bare hb) fun _ _ e => e) rfl q)))
    · obtain ⟨acc, H, cp, _, I1, _, _, q⟩ := hp
      exact wpAny_bind (wpAny_rule (wpAny_pure (hret (.bl true) _ H _ (M.back I1 rfl (allBare_setGen I1.bare rfl) hk) rfl q)))
theorem Made.any_loop (M : Made X pins σ tg elt iter ifs scope gpos own J code H3 s3 it fp tn a g gob s5) {A : Around} {σ0 : L2.St} {R : Result → Shared → Prop} {Q : VK} (hh : A.handled = none) (hdp : A.depth < recursionLimit)
    (hret : ∀ v u H s', Inv X pins σ H s' → RelV v u → Q v H → R (.ok (.ret u)) s') : ∀ (n : Nat) (s : Shared) (gs : GenState), s.heap.get? a = some gob → s.heap.NoLimit → s.gens[g]? = some gs →
    gs.Goes (model X.prog X.w) A.in1.in1 (RG crU (fiAny Q) (M.cx A.in1.in1) (a, gob) [] σ0) (YG crU (stAny Q) (M.cx A.in1.in1) (a, gob) fp tn [] σ0) n (.send .none) (s.setGen g .running) →
    codeAny (model X.prog X.w) A (.builtin "any.loop" ⟨[.ref a], []⟩) R s := by
  intro n
  induction n with
  | zero =>
    intro s gs hG hl hgs hgo
    refine codeAny_builtin F.entry_any_loop ?_
    rw [Around.under_plainId F.plain_any_loop _]
    show wpAny _ A.in1 (pyNext (.ref a) >>= _) _ _ s
    refine wpAny_bind (M.next (A := A.in1) hh hdp hG hl hgs hgo (fun v s1 gs' i x acc H Nx hb rx st cr ks sp hsz kap => ?_) (fun s1 h' hp hk => ?_))
    · obtain ⟨b, rfl, q⟩ := sp
      cases rx
      refine wpAny_bind (wpAny_holding (wpAny_truthy_bool ?_))
      refine wpAny_bind (wpAny_letGo ?_)
      obtain ⟨_, _, bare, _⟩ := gst_get st
      cases b with
      | false =>
        simp only [Bool.false_eq_true, if_false] at q
        obtain ⟨n', hn, _⟩ := kap s1 () ⟨rfl, bare, fun _ _ _ e => e, fun _ h => nomatch h⟩ trivial q
        omega
      | true =>
        simp only [if_true] at q ⊢
        obtain ⟨cp, _, I1, _, _⟩ := st
        exact wpAny_bind (wpAny_rule (wpAny_pure (hret (.bl true) _ H _ (M.back I1 rfl (allBare_setGen bare hb) fun _ _ e => e) rfl q)))
    · obtain ⟨acc, H, cp, _, I1, _, _, q⟩ := hp
      exact wpAny_bind (wpAny_rule (wpAny_pure (hret (.bl false) _ H _ (M.back I1 rfl (allBare_setGen I1.bare rfl) hk) rfl q)))
  | succ n ih =>
    intro s gs hG hl hgs hgo
    refine codeAny_builtin F.entry_any_loop ?_
    rw [Around.under_plainId F.plain_any_loop _]
    show wpAny _ A.in1 (pyNext (.ref a) >>= _) _ _ s
    refine wpAny_bind (M.next (A := A.in1) hh hdp hG hl hgs hgo (fun v s1 gs' i x acc H Nx hb rx st cr ks sp hsz kap => ?_) (fun s1 h' hp hk => ?_))
    · obtain ⟨b, rfl, q⟩ := sp
      cases rx
      refine wpAny_bind (wpAny_holding (wpAny_truthy_bool ?_))
      refine wpAny_bind (wpAny_letGo ?_)
      obtain ⟨eG, nl, bare, _⟩ := gst_get st
      cases b with
      | false =>
        simp only [Bool.false_eq_true, if_false] at q ⊢
        obtain ⟨n', hn, go'⟩ := kap ((s1.setGen g gs').setGen g .running) () ⟨rfl, allBare_setGen (s := s1.setGen g gs') (allBare_setGen bare hb) rfl, fun _ _ _ e => e, fun _ h => nomatch h⟩ trivial q
        obtain rfl : n' = n := by omega
        exact wpAny_pure ⟨plainId_quiet F.plain_any_loop _, ih _ gs' eG nl (setGen_at hsz) go'⟩
      | true =>
        simp only [if_true] at q ⊢
        obtain ⟨cp, _, I1, _, _⟩ := st
        exact wpAny_bind (wpAny_rule (wpAny_pure (hret (.bl true) _ H _ (M.back I1 rfl (allBare_setGen bare hb) fun _ _ e => e) rfl q)))
    · obtain ⟨acc, H, cp, _, I1, _, _, q⟩ := hp
      exact wpAny_bind (wpAny_rule (wpAny_pure (hret (.bl false) _ H _ (M.back I1 rfl (allBare_setGen I1.bare rfl) hk) rfl q)))
/-- the consumer has written its list -/
theorem slp_upd {S : Addr} {s1 : Shared} {g : Nat} {gs' gs2 : GenState} {f : Obj → Obj} {o : Obj} {tk : Nat} (bare : AllBare s1.gens) (hb : gs'.bare = true) (hb2 : gs2.bare = true) (eS : (s1.heap.update S f).get? S = some o) (nc : ∀ v, o.data ≠ .cell v) :
    Slp [S] s1 (({ s1.setGen g gs' with heap := s1.heap.update S f, toks := tk } : Shared).setGen g gs2) where
  os := rfl
  bare := allBare_setGen (s := { s1.setGen g gs' with heap := s1.heap.update S f, toks := tk }) (allBare_setGen (s := s1) bare hb) hb2
  keep := fun b o hb e => (Heap.get?_update_other _ _ (fun z => hb (by rw [z]; exact List.mem_singleton.mpr rfl))).trans e
  own := fun b hb => by rw [List.mem_singleton.mp hb]; exact ⟨o, eS, nc⟩
theorem Made.sum_loop (M : Made X pins σ tg elt iter ifs scope gpos own J code H3 s3 it fp tn a g gob s5) {A : Around} {σ0 : L2.St} {R : Result → Shared → Prop} {Q : VK} {S : Addr} (hh : A.handled = none) (hdp : A.depth < recursionLimit) (hSa : a ≠ S) (hSc : cStatics ≠ S)
    (hret : ∀ v u H s', Inv X pins σ H s' → RelV v u → Q v H → R (.ok (.ret u)) s') : ∀ (n : Nat) (s : Shared) (gs : GenState) (acc : Int) (t : Tok) (c : Nat) (st : Int), (st = 0 ∨ st = 2) → s.heap.get? a = some gob → s.heap.NoLimit → s.gens[g]? = some gs → s.heap.get? S = some (lstO #[.int acc t] c) →
    gs.Goes (model X.prog X.w) A.in1.in1 (RG (crSum S) (fiSum Q) (M.cx A.in1.in1) (a, gob) [S] σ0) (YG (crSum S) (stSum Q) (M.cx A.in1.in1) (a, gob) fp tn [S] σ0) n (.send .none) (s.setGen g .running) →
    codeAny (model X.prog X.w) A (.builtin "sum.loop" ⟨[.ref a, .ref S, rawInt st, rawInt 0], []⟩) R s := by
  have same : ∀ {acc acc' : Int} {t : Tok} {c : Nat} {h : Heap}, h.get? S = some (lstO #[.int acc t] c) → crSum S acc' h → acc' = acc := fun {acc acc' t c h} e ⟨t', c', e'⟩ => by
    rw [e] at e'
    cases e'
    rfl
  intro n
  induction n with
  | zero =>
    intro s gs acc t c st hst hG hl hgs eS hgo
    refine codeAny_builtin F.entry_sum_loop ?_
    rw [Around.under_plainId F.plain_sum_loop _]
    show wpAny _ A.in1 (seqItems? (.ref S) >>= _) _ _ s
    refine wpAny_bind (wpAny_seqItems eS rfl ?_)
    show wpAny _ A.in1 (tryCatch (pyNext (.ref a)) _ >>= _) _ _ s
    refine wpAny_bind (wpAny_tryCatch (M.next (A := A.in1) hh hdp hG hl hgs hgo (fun v s1 gs' i x acc' H Nx hb rx st' cr ks sp hsz kap => ?_) (fun s1 h' hp hk => ?_)))
    · obtain ⟨j, rfl, q⟩ := sp
      obtain ⟨eG, nl, bare, _⟩ := gst_get st'
      have e1 : s1.heap.get? S = some (lstO #[.int acc t] c) := by rw [ks S (List.mem_singleton.mpr rfl)]; exact eS
      have e2 := Heap.get?_update_self (Obj.mapSeq fun _ => #[Value.int (acc' + j) 0]) e1 rfl
      obtain ⟨n', hn, _⟩ := kap _ (acc' + j) (slp_upd (g := g) (gs' := .running) (gs2 := .running) (tk := 0) bare rfl rfl e2 (fun v z => by cases z)) ⟨0, _, e2⟩ q
      omega
    · obtain ⟨acc', H, cp, _, I1, cr, ks, q⟩ := hp
      rw [same eS cr] at q
      exact wpAny_pure (hret (.int acc) _ H _ (M.back I1 rfl (allBare_setGen I1.bare rfl) hk) ⟨t, rfl⟩ q)
  | succ n ih =>
    intro s gs acc t c st hst hG hl hgs eS hgo
    refine codeAny_builtin F.entry_sum_loop ?_
    rw [Around.under_plainId F.plain_sum_loop _]
    show wpAny _ A.in1 (seqItems? (.ref S) >>= _) _ _ s
    refine wpAny_bind (wpAny_seqItems eS rfl ?_)
    show wpAny _ A.in1 (tryCatch (pyNext (.ref a)) _ >>= _) _ _ s
    refine wpAny_bind (wpAny_tryCatch (M.next (A := A.in1) hh hdp hG hl hgs hgo (fun v s1 gs' i x acc' H Nx hb rx st' cr ks sp hsz kap => ?_) (fun s1 h' hp hk => ?_)))
    · obtain ⟨j, rfl, q⟩ := sp
      obtain ⟨tj, rfl⟩ := rx
      rw [same eS cr] at q
      obtain ⟨eG, nl, bare, _⟩ := gst_get st'
      have e1 : s1.heap.get? S = some (lstO #[.int acc t] c) := by rw [ks S (List.mem_singleton.mpr rfl)]; exact eS
      have on : ∀ (s2 : Shared) (tk : Tok) (c2 : Nat) (st2 : Int), (st2 = 0 ∨ st2 = 2) → s2.os = s1.os → AllBare s2.gens → s2.gens[g]? = some gs' → (∀ b o, b ≠ S → s1.heap.get? b = some o → s2.heap.get? b = some o) → s2.heap.get? S = some (lstO #[.int (acc + j) tk] c2) →
          codeAny (model X.prog X.w) A (.builtin "sum.loop" ⟨[.ref a, .ref S, rawInt st2, rawInt 0], []⟩) R s2 := fun s2 tk c2 st2 h2 ho hbb hg2 kp e2 => by
        obtain ⟨n', hn, go'⟩ := kap (s2.setGen g .running) (acc + j) ⟨ho, allBare_setGen hbb rfl, fun b o hb e => kp b o (fun z => hb (by rw [z]; exact List.mem_singleton.mpr rfl)) e, fun b hb => by rw [List.mem_singleton.mp hb]; exact ⟨_, e2, fun v z => by cases z⟩⟩ ⟨tk, c2, e2⟩ q
        obtain rfl : n' = n := by omega
        refine ih s2 gs' (acc + j) tk c2 st2 h2 (kp a _ hSa eG) ?_ hg2 e2 go'
        obtain ⟨mc, hns, hnn⟩ := nl
        exact ⟨mc, hns.at' fun o e => kp _ o hSc e, hnn⟩
      rcases hst with rfl | rfl
      · show wpAny _ A.in1 (if (_ : Bool) = true then (mkInt (acc + j) >>= _) else _) _ _ _
        split
        · refine wpAny_bind (wpAny_mkInt ?_)
          show wpAny _ A.in1 (updateSeq S (fun _ => #[.int (acc + j) s1.toks]) >>= _) _ _ _
          refine wpAny_bind ?_
          refine wpAny_updateSeq e1 rfl (wpAny_pure ⟨plainId_quiet F.plain_sum_loop _, ?_⟩)
          exact on _ _ _ 0 (.inl rfl) rfl (allBare_setGen bare hb) (setGen_at hsz) (fun b o hb e => (Heap.get?_update_other _ _ (Ne.symm hb)).trans e) (Heap.get?_update_self _ e1 rfl)
        · refine wpAny_bind (wpAny_rule ?_)
          refine wpAny_bind (wpAny_attempt (wpAny_holding (wpAny_add_int ?_)))
          show wpAny _ A.in1 (updateSeq S (fun _ => #[.int (acc + j) s1.toks]) >>= _) _ _ _
          refine wpAny_bind (wpAny_updateSeq e1 rfl ?_)
          have e2 := Heap.get?_update_self (Obj.mapSeq fun _ => #[Value.int (acc + j) s1.toks]) e1 rfl
          refine wpAny_bind (wpAny_letGo ?_)
          refine wpAny_bind (wpAny_updateSeq e2 rfl (wpAny_pure ⟨plainId_quiet F.plain_sum_loop _, ?_⟩))
          exact on _ _ _ 2 (.inr rfl) rfl (allBare_setGen bare hb) (setGen_at hsz) (fun b o hb e => (Heap.get?_update_other _ _ (Ne.symm hb)).trans ((Heap.get?_update_other _ _ (Ne.symm hb)).trans e)) (Heap.get?_update_self _ e2 rfl)
      · show wpAny _ A.in1 ((holding [Value.int j tj] (binaryOp .Add (.int acc t) (.int j tj))).attempt >>= _) _ _ _
        refine wpAny_bind (wpAny_attempt (wpAny_holding (wpAny_add_int ?_)))
        show wpAny _ A.in1 (updateSeq S (fun _ => #[.int (acc + j) s1.toks]) >>= _) _ _ _
        refine wpAny_bind (wpAny_updateSeq e1 rfl ?_)
        have e2 := Heap.get?_update_self (Obj.mapSeq fun _ => #[Value.int (acc + j) s1.toks]) e1 rfl
        refine wpAny_bind (wpAny_letGo ?_)
        refine wpAny_bind (wpAny_updateSeq e2 rfl (wpAny_pure ⟨plainId_quiet F.plain_sum_loop _, ?_⟩))
        exact on _ _ _ 2 (.inr rfl) rfl (allBare_setGen bare hb) (setGen_at hsz) (fun b o hb e => (Heap.get?_update_other _ _ (Ne.symm hb)).trans ((Heap.get?_update_other _ _ (Ne.symm hb)).trans e)) (Heap.get?_update_self _ e2 rfl)
    · obtain ⟨acc', H, cp, _, I1, cr, ks, q⟩ := hp
      rw [same eS cr] at q
      exact wpAny_pure (hret (.int acc) _ H _ (M.back I1 rfl (allBare_setGen I1.bare rfl) hk) ⟨t, rfl⟩ q)
end
end GX

namespace GX
open PySem PySem.Spec PyProof.Rows L2 GenW
def tGx {α : Type} (a0 : α) (Stp : VK → Stps α) (Fin : VK → α → Hp → Prop) (tc : TC) (ti : TI) (g : TG) (tt : TT) (te : Value → TE) (vs : List Nat) : TE := fun σ H Q => ti σ H fun J H1 => tc σ H1 fun code H2 => ∃ W : Nat → Nat → α → Hp → Prop, (∃ m, W 0 m a0 H2) ∧ TurnsR (Stp Q) (Fin Q) J g tt (te code) vs σ W
/-- a rule that holds in the expression's frame, whichever it is -/
abbrev Fam (X : Cx) (k : Nat) (scope : Scope) (Pp : Cx → Value → Prop) : Prop := ∀ (B : Around) (s : Shared) (H : Hp) (code : Value) (fp : List Addr), Room k B → B.guards = X.A.guards → Pp (gcx X B s H scope (gEnv X scope s code) fp) code
def crMax (S : Addr) : Option Int → Heap → Prop
  | none, h => ∃ c, h.get? S = some (lstO #[] c)
  | some m, h => ∃ t c, h.get? S = some (lstO #[.int m t, .int m t] c)
def stMax (Q : VK) : Stps (Option Int) := fun acc y H N => ∃ i, y = .int i ∧ N (some (match acc with | none => i | some j => if j < i then i else j)) H
def stMin (Q : VK) : Stps (Option Int) := fun acc y H N => ∃ i, y = .int i ∧ N (some (match acc with | none => i | some j => if i < j then i else j)) H
def fiMax (Q : VK) : Option Int → Hp → Prop := fun acc H => ∃ m, acc = some m ∧ Q (.int m) H
section
variable {X : Cx} {pins : List (Addr × Obj)} {σ : L2.St} {tg elt iter : Expr} {ifs : List Expr} {scope : Scope} {gpos : Pos} {own : List (Str × Nat)} {J : It} {code : Value} {H3 : Hp} {s3 : Shared} {it : Addr} {fp : List Addr} {tn : Nat → Heap → Prop} {a : Addr} {g : Nat} {gob : Obj} {s5 : Shared}
theorem crMax_none {S : Addr} {acc : Option Int} {h : Heap} {c : Nat} (e : h.get? S = some (lstO #[] c)) (x : crMax S acc h) : acc = none := by
  cases acc with
  | none => rfl
  | some m =>
    obtain ⟨t, c', e'⟩ := x
    rw [e] at e'
    cases e'
theorem crMax_some {S : Addr} {acc : Option Int} {h : Heap} {c : Nat} {m : Int} {t : Tok} (e : h.get? S = some (lstO #[.int m t, .int m t] c)) (x : crMax S acc h) : acc = some m := by
  cases acc with
  | none =>
    obtain ⟨c', e'⟩ := x
    rw [e] at e'
    cases e'
  | some m' =>
    obtain ⟨t', c', e'⟩ := x
    rw [e] at e'
    cases e'
    rfl
theorem Made.max_loop (M : Made X pins σ tg elt iter ifs scope gpos own J code H3 s3 it fp tn a g gob s5) {A : Around} {σ0 : L2.St} {R : Result → Shared → Prop} {Q : VK} {S : Addr} (hh : A.handled = none) (hdp : A.depth < recursionLimit) (hSa : a ≠ S) (hSc : cStatics ≠ S) (hS5 : s3.heap.objs.size ≤ S)
    (hret : ∀ v u H s', Inv X pins σ H s' → RelV v u → Q v H → R (.ok (.ret u)) s') : ∀ (n : Nat) (s : Shared) (gs : GenState) (c : Nat), s.heap.get? a = some gob → s.heap.NoLimit → s.gens[g]? = some gs →
    (s.heap.get? S = some (lstO #[] c) ∨ ∃ m t, s.heap.get? S = some (lstO #[.int m t, .int m t] c)) →
    gs.Goes (model X.prog X.w) A.in1.in1 (RG (crMax S) (fiMax Q) (M.cx A.in1.in1) (a, gob) [S] σ0) (YG (crMax S) (stMax Q) (M.cx A.in1.in1) (a, gob) fp tn [S] σ0) n (.send .none) (s.setGen g .running) →
    codeAny (model X.prog X.w) A (.builtin "max.loop" ⟨[.ref a, .none, .ref S], []⟩) R s := by
  have hname : (toString "max" ++ toString ".loop" : String) = "max.loop" := by decide
  intro n
  induction n with
  | zero =>
    intro s gs c hG hl hgs eS hgo
    refine codeAny_builtin F.entry_max_loop ?_
    rw [Around.under_plainId F.plain_max_loop _]
    show wpAny _ A.in1 (seqItems? (.ref S) >>= _) _ _ s
    have dead : ∀ {o : Obj} {v : Value} {s1 : Shared} {i : Nat} {x : V} {acc : Option Int} {H : Hp} {Nx : Option Int → Hp → Prop} {gs' : GenState}, (∃ xs c2, o = lstO xs c2) → s1.heap.get? S = some o → GSt (M.cx A.in1.in1) (a, gob) fp tn [S] σ0 i H s1 → stMax Q acc x H Nx →
        (∀ s' acc', Slp [S] s1 s' → crMax S acc' s'.heap → Nx acc' H → ∃ n', 0 = n' + 1 ∧ gs'.Goes (model X.prog X.w) A.in1.in1 (RG (crMax S) (fiMax Q) (M.cx A.in1.in1) (a, gob) [S] σ0) (YG (crMax S) (stMax Q) (M.cx A.in1.in1) (a, gob) fp tn [S] σ0) n' (.send .none) s') → False := fun {o v s1 i x acc H Nx gs'} ho e1 st' sp kap => by
      obtain ⟨j, rfl, q⟩ := sp
      obtain ⟨xs, c2, rfl⟩ := ho
      obtain ⟨eG, nl, bare, _⟩ := gst_get st'
      generalize (match acc with | none => j | some k => if k < j then j else k) = m' at q
      have e2 := Heap.get?_update_self (Obj.mapSeq fun _ => #[Value.int m' 0, Value.int m' 0]) e1 rfl
      obtain ⟨n', hn, _⟩ := kap _ (some m') (slp_upd (g := g) (gs' := .running) (gs2 := .running) (tk := 0) bare rfl rfl e2 (fun v z => by cases z)) ⟨0, _, e2⟩ q
      omega
    rcases eS with eS | ⟨m, t, eS⟩
    · refine wpAny_bind (wpAny_seqItems eS rfl ?_)
      show wpAny _ A.in1 (tryCatch (pyNext (.ref a)) _ >>= _) _ _ s
      refine wpAny_bind (wpAny_tryCatch (M.next (A := A.in1) hh hdp hG hl hgs hgo (fun v s1 gs' i x acc' H Nx hb rx st' cr ks sp hsz kap => ?_) (fun s1 h' hp hk => ?_)))
      · exact (dead (v := v) ⟨_, _, rfl⟩ (by rw [ks S (List.mem_singleton.mpr rfl)]; exact eS) st' sp kap).elim
      · obtain ⟨acc', H, cp, _, I1, cr, ks, m, em, q⟩ := hp
        have := crMax_none (h := s.heap) eS cr
        rw [this] at em
        cases em
    · refine wpAny_bind (wpAny_seqItems eS rfl ?_)
      show wpAny _ A.in1 (tryCatch (pyNext (.ref a)) _ >>= _) _ _ s
      refine wpAny_bind (wpAny_tryCatch (M.next (A := A.in1) hh hdp hG hl hgs hgo (fun v s1 gs' i x acc' H Nx hb rx st' cr ks sp hsz kap => ?_) (fun s1 h' hp hk => ?_)))
      · exact (dead (v := v) ⟨_, _, rfl⟩ (by rw [ks S (List.mem_singleton.mpr rfl)]; exact eS) st' sp kap).elim
      · obtain ⟨acc', H, cp, ecp, I1, cr, ks, m', em, q⟩ := hp
        have := crMax_some (h := s.heap) eS cr
        rw [this] at em
        cases em
        have e1 : h'.get? S = some (lstO #[.int m t, .int m t] c) := hk _ _ (by rw [ks S (List.mem_singleton.mpr rfl)]; exact eS)
        have nS : H S = none := by
          have hm : S ∈ cp.map (·.1) := by rw [ecp]; exact List.mem_singleton.mpr rfl
          obtain ⟨p, hp, e⟩ := List.mem_map.mp hm
          rw [← e]
          exact (I1.pin p (List.mem_append_right _ (List.mem_cons_of_mem _ hp))).2.1
        show wpAny _ A.in1 (updateSeq S (fun _ => #[]) >>= _) _ _ _
        refine wpAny_bind ?_
        refine wpAny_updateSeq e1 rfl (wpAny_bind (wpAny_letGo (wpAny_pure ?_)))
        have J1 := M.back (s' := { s1.setGen g .finished with heap := h' }) I1 rfl (allBare_setGen I1.bare rfl) hk
        obtain ⟨f0, f1, f2, f3, f4, f5⟩ := M.inv.fpOk hS5 nS
        exact hret (.int m) _ H _ (J1.turned (t' := s1.toks) (fun b o hb e => (Heap.get?_update_other _ _ (Ne.symm hb)).trans e) f0 f1 f3 f4 f5) ⟨t, rfl⟩ q
  | succ n ih =>
    intro s gs c hG hl hgs eS hgo
    refine codeAny_builtin F.entry_max_loop ?_
    rw [Around.under_plainId F.plain_max_loop _]
    show wpAny _ A.in1 (seqItems? (.ref S) >>= _) _ _ s
    rcases eS with eS | ⟨m, t, eS⟩
    · refine wpAny_bind (wpAny_seqItems eS rfl ?_)
      show wpAny _ A.in1 (tryCatch (pyNext (.ref a)) _ >>= _) _ _ s
      refine wpAny_bind (wpAny_tryCatch (M.next (A := A.in1) hh hdp hG hl hgs hgo (fun v s1 gs' i x acc' H Nx hb rx st' cr ks sp hsz kap => ?_) (fun s1 h' hp hk => ?_)))
      · obtain ⟨j, rfl, q⟩ := sp
        obtain ⟨tj, rfl⟩ := rx
        rw [crMax_none (h := s.heap) eS cr] at q
        obtain ⟨eG, nl, bare, _⟩ := gst_get st'
        have e1 : s1.heap.get? S = some (lstO #[] c) := by rw [ks S (List.mem_singleton.mpr rfl)]; exact eS
        show wpAny _ A.in1 (updateSeq S (fun _ => #[.int j tj, .int j tj]) >>= _) _ _ _
        refine wpAny_bind ?_
        refine wpAny_updateSeq e1 rfl ?_
        have e2 := Heap.get?_update_self (Obj.mapSeq fun _ => #[Value.int j tj, Value.int j tj]) e1 rfl
        rw [hname]
        refine wpAny_pure ⟨plainId_quiet F.plain_max_loop _, ?_⟩
        obtain ⟨n', hn, go'⟩ := kap _ (some j) (slp_upd (g := g) (gs' := gs') (gs2 := .running) (tk := s1.toks) bare hb rfl e2 (fun v z => by cases z)) ⟨tj, _, e2⟩ q
        obtain rfl : n' = n := by omega
        refine ih { s1.setGen g gs' with heap := s1.heap.update S (Obj.mapSeq fun _ => #[Value.int j tj, Value.int j tj]) } gs' _ ((Heap.get?_update_other _ _ (Ne.symm hSa)).trans eG) ?_ (setGen_at hsz) (.inr ⟨j, tj, e2⟩) go'
        obtain ⟨mc, hns, hnn⟩ := nl
        exact ⟨mc, hns.at' fun o e => (Heap.get?_update_other _ _ (Ne.symm hSc)).trans e, hnn⟩
      · obtain ⟨acc', H, cp, _, I1, cr, ks, m, em, q⟩ := hp
        have := crMax_none (h := s.heap) eS cr
        rw [this] at em
        cases em
    · refine wpAny_bind (wpAny_seqItems eS rfl ?_)
      show wpAny _ A.in1 (tryCatch (pyNext (.ref a)) _ >>= _) _ _ s
      refine wpAny_bind (wpAny_tryCatch (M.next (A := A.in1) hh hdp hG hl hgs hgo (fun v s1 gs' i x acc' H Nx hb rx st' cr ks sp hsz kap => ?_) (fun s1 h' hp hk => ?_)))
      · obtain ⟨j, rfl, q⟩ := sp
        obtain ⟨tj, rfl⟩ := rx
        rw [crMax_some (h := s.heap) eS cr] at q
        obtain ⟨eG, nl, bare, _⟩ := gst_get st'
        have e1 : s1.heap.get? S = some (lstO #[.int m t, .int m t] c) := by rw [ks S (List.mem_singleton.mpr rfl)]; exact eS
        show wpAny _ A.in1 (tryCatch (holding [.int j tj, .int j tj] (richCompare .Gt (.int j tj) (.int m t) >>= _)) _ >>= _) _ _ _
        refine wpAny_bind (wpAny_tryCatch (wpAny_holding (wpAny_bind (P.gt_int ?_))))
        refine wpAny_bind (wpAny_holding (wpAny_truthy_bool ?_))
        refine wpAny_bind (wpAny_letGo (wpAny_pure ?_))
        by_cases hb' : m < j
        · rw [decide_eq_true hb']
          simp only [if_true]
          have q : Nx (some j) H := by
            have z : Nx (some (if m < j then j else m)) H := q
            rw [if_pos hb'] at z
            exact z
          refine wpAny_bind ?_
          refine wpAny_updateSeq e1 rfl (wpAny_bind (wpAny_letGo ?_))
          have e2 := Heap.get?_update_self (Obj.mapSeq fun _ => #[Value.int j tj, Value.int j tj]) e1 rfl
          rw [hname]
          refine wpAny_pure ⟨plainId_quiet F.plain_max_loop _, ?_⟩
          obtain ⟨n', hn, go'⟩ := kap _ (some j) (slp_upd (g := g) (gs' := gs') (gs2 := .running) (tk := s1.toks) bare hb rfl e2 (fun v z => by cases z)) ⟨tj, _, e2⟩ q
          obtain rfl : n' = n := by omega
          refine ih { s1.setGen g gs' with heap := s1.heap.update S (Obj.mapSeq fun _ => #[Value.int j tj, Value.int j tj]) } gs' _ ((Heap.get?_update_other _ _ (Ne.symm hSa)).trans eG) ?_ (setGen_at hsz) (.inr ⟨j, tj, e2⟩) go'
          obtain ⟨mc, hns, hnn⟩ := nl
          exact ⟨mc, hns.at' fun o e => (Heap.get?_update_other _ _ (Ne.symm hSc)).trans e, hnn⟩
        · rw [decide_eq_false hb']
          simp only [Bool.false_eq_true, if_false]
          have q : Nx (some m) H := by
            have z : Nx (some (if m < j then j else m)) H := q
            rw [if_neg hb'] at z
            exact z
          refine wpAny_bind (wpAny_letGo ?_)
          rw [hname]
          refine wpAny_pure ⟨plainId_quiet F.plain_max_loop _, ?_⟩
          obtain ⟨n', hn, go'⟩ := kap ((s1.setGen g gs').setGen g .running) (some m) ⟨rfl, allBare_setGen (s := s1.setGen g gs') (allBare_setGen bare hb) rfl, fun _ _ _ e => e, fun b hb => by rw [List.mem_singleton.mp hb]; exact ⟨_, e1, fun v z => by cases z⟩⟩ ⟨t, _, e1⟩ q
          obtain rfl : n' = n := by omega
          exact ih _ gs' _ eG nl (setGen_at hsz) (.inr ⟨m, t, e1⟩) go'
      · obtain ⟨acc', H, cp, ecp, I1, cr, ks, m', em, q⟩ := hp
        have := crMax_some (h := s.heap) eS cr
        rw [this] at em
        cases em
        have e1 : h'.get? S = some (lstO #[.int m t, .int m t] c) := hk _ _ (by rw [ks S (List.mem_singleton.mpr rfl)]; exact eS)
        have nS : H S = none := by
          have hm : S ∈ cp.map (·.1) := by rw [ecp]; exact List.mem_singleton.mpr rfl
          obtain ⟨p, hp, e⟩ := List.mem_map.mp hm
          rw [← e]
          exact (I1.pin p (List.mem_append_right _ (List.mem_cons_of_mem _ hp))).2.1
        show wpAny _ A.in1 (updateSeq S (fun _ => #[]) >>= _) _ _ _
        refine wpAny_bind ?_
        refine wpAny_updateSeq e1 rfl (wpAny_bind (wpAny_letGo (wpAny_pure ?_)))
        have J1 := M.back (s' := { s1.setGen g .finished with heap := h' }) I1 rfl (allBare_setGen I1.bare rfl) hk
        obtain ⟨f0, f1, f2, f3, f4, f5⟩ := M.inv.fpOk hS5 nS
        exact hret (.int m) _ H _ (J1.turned (t' := s1.toks) (fun b o hb e => (Heap.get?_update_other _ _ (Ne.symm hb)).trans e) f0 f1 f3 f4 f5) ⟨t, rfl⟩ q
end
end GX

namespace GX
open PySem PySem.Spec PyProof.Rows L2 GenW
section
variable {X : Cx} {tg elt iter : Expr} {ifs : List Expr} {scope : Scope} {gpos p pos : Pos} {own : List (Str × Nat)} {ti : TI} {tc : TC} {P0 : Addr} {k : Nat} {g' : TG} {tt : TT} {te : Value → TE}
theorem room_in {A : Around} (r : Room (k + 3) A) (e : Env) : Room k (A.in1.in1.deeper e) := ⟨r.hd, by have := r.dp; show A.depth + 1 + 3 * k + 5 < _; omega, by have := r.un; show A.units + 1 + 1 + 3 + 16 * k + 200 < _; omega⟩
theorem pe_allX (hr : Room (k + 3) X.A) (hN : X.N.Nodup) (glob : Gl X "all") (free : X.mg "all" = none) (BA : X.base.BuiltinsAt X.mg P0) (hi : PI X tg iter ti) (hpc : PC X gpos scope tc) (ok : GOk X.N X.env.scope scope own)
    (hg : Fam X k scope fun Y _ => PG Y tg g') (ht : Fam X k scope fun Y _ => PTs Y ifs tt) (he : Fam X k scope fun Y code => PE Y elt (te code)) (hs : ∀ v, genFold iter X.env v = pure v := by intro _; rfl)
    (one : starEach [.GeneratorExp elt [⟨tg, iter, ifs, 0⟩] scope gpos] X.env = [(false, eval (.GeneratorExp elt [⟨tg, iter, ifs, 0⟩] scope gpos) X.env)] := by rfl) :
    PE X (.Call (.Name "all" p) [.GeneratorExp elt [⟨tg, iter, ifs, 0⟩] scope gpos] [] pos) (tGx () stAll fiAll tc ti g' tt te (own.map (·.2))) := by
  constructor
  intro pins s σ H Q I h
  refine wpAny_Call_Name_kw (ld_blt I glob free (show bootBuiltins "all" = some (.builtin "all") by decide +kernel) (callWith_builtin1 ?_ one (by rfl)) (by decide) (by decide))
  rw [one]
  refine Calls.spliced_cons (gx_eval I hN hr hi hpc BA ok hs h fun J code H3 s3 it fp tn a g gob s5 want M => Calls.spliced_nil ?_)
  obtain ⟨W, ⟨m0, w0⟩, turn⟩ := want
  have hd : X.A.depth < recursionLimit := by have := hr.dp; omega
  have hB := M.bok (A := X.A.in1.in1) hr.hd I.ok.frames
  have I5 := M.sub _ hB
  have rm := room_in hr (gEnv X scope s3 code)
  refine call_function_tree F.kind_all F.plain_all F.entry_all (F.args_all1 _) ?_
  unfold Builtin.«all»
  refine wpAny_bind (m := oneArg "all" _) (wpAny_pure ?_)
  refine wpAny_bind (wpAny_pyIter_gen (M.isGen M.get) ?_)
  refine wpAny_pure ⟨plainId_quiet F.plain_all_loop _, M.all_loop (σ0 := wipe σ (own.map (·.2))) hr.hd hd (fun v u H s' I' r q => ⟨v, H, I', r, q⟩) (m0 + 1) s5 _ M.get I5.nolimit M.gen ?_⟩
  refine ⟨rfl, ?_⟩
  exact M.wake (A := X.A.in1.in1) (s2 := s5.setGen g .running) ok.co hr.hd I.ok.frames (hg _ _ _ _ _ rm rfl) (ht _ _ _ _ _ rm rfl) (he _ _ _ _ _ rm rfl) turn w0 (Nat.lt_succ_self _) rfl (allBare_setGen I5.bare rfl) (fun _ _ e => e) (fun _ h => nomatch h) trivial
theorem pe_anyX (hr : Room (k + 3) X.A) (hN : X.N.Nodup) (glob : Gl X "any") (free : X.mg "any" = none) (BA : X.base.BuiltinsAt X.mg P0) (hi : PI X tg iter ti) (hpc : PC X gpos scope tc) (ok : GOk X.N X.env.scope scope own)
    (hg : Fam X k scope fun Y _ => PG Y tg g') (ht : Fam X k scope fun Y _ => PTs Y ifs tt) (he : Fam X k scope fun Y code => PE Y elt (te code)) (hs : ∀ v, genFold iter X.env v = pure v := by intro _; rfl)
    (one : starEach [.GeneratorExp elt [⟨tg, iter, ifs, 0⟩] scope gpos] X.env = [(false, eval (.GeneratorExp elt [⟨tg, iter, ifs, 0⟩] scope gpos) X.env)] := by rfl) :
    PE X (.Call (.Name "any" p) [.GeneratorExp elt [⟨tg, iter, ifs, 0⟩] scope gpos] [] pos) (tGx () stAny fiAny tc ti g' tt te (own.map (·.2))) := by
  constructor
  intro pins s σ H Q I h
  refine wpAny_Call_Name_kw (ld_blt I glob free (show bootBuiltins "any" = some (.builtin "any") by decide +kernel) (callWith_builtin1 ?_ one (by rfl)) (by decide) (by decide))
  rw [one]
  refine Calls.spliced_cons (gx_eval I hN hr hi hpc BA ok hs h fun J code H3 s3 it fp tn a g gob s5 want M => Calls.spliced_nil ?_)
  obtain ⟨W, ⟨m0, w0⟩, turn⟩ := want
  have hd : X.A.depth < recursionLimit := by have := hr.dp; omega
  have hB := M.bok (A := X.A.in1.in1) hr.hd I.ok.frames
  have I5 := M.sub _ hB
  have rm := room_in hr (gEnv X scope s3 code)
  refine call_function_tree F.kind_any F.plain_any F.entry_any (F.args_any1 _) ?_
  unfold Builtin.«any»
  refine wpAny_bind (m := oneArg "any" _) (wpAny_pure ?_)
  refine wpAny_bind (wpAny_pyIter_gen (M.isGen M.get) ?_)
  refine wpAny_pure ⟨plainId_quiet F.plain_any_loop _, M.any_loop (σ0 := wipe σ (own.map (·.2))) hr.hd hd (fun v u H s' I' r q => ⟨v, H, I', r, q⟩) (m0 + 1) s5 _ M.get I5.nolimit M.gen ?_⟩
  refine ⟨rfl, ?_⟩
  exact M.wake (A := X.A.in1.in1) (s2 := s5.setGen g .running) ok.co hr.hd I.ok.frames (hg _ _ _ _ _ rm rfl) (ht _ _ _ _ _ rm rfl) (he _ _ _ _ _ rm rfl) turn w0 (Nat.lt_succ_self _) rfl (allBare_setGen I5.bare rfl) (fun _ _ e => e) (fun _ h => nomatch h) trivial
theorem pe_sumX (hr : Room (k + 3) X.A) (hN : X.N.Nodup) (glob : Gl X "sum") (free : X.mg "sum" = none) (BA : X.base.BuiltinsAt X.mg P0) (hi : PI X tg iter ti) (hpc : PC X gpos scope tc) (ok : GOk X.N X.env.scope scope own)
    (hg : Fam X k scope fun Y _ => PG Y tg g') (ht : Fam X k scope fun Y _ => PTs Y ifs tt) (he : Fam X k scope fun Y code => PE Y elt (te code)) (hs : ∀ v, genFold iter X.env v = pure v := by intro _; rfl)
    (one : starEach [.GeneratorExp elt [⟨tg, iter, ifs, 0⟩] scope gpos] X.env = [(false, eval (.GeneratorExp elt [⟨tg, iter, ifs, 0⟩] scope gpos) X.env)] := by rfl) :
    PE X (.Call (.Name "sum" p) [.GeneratorExp elt [⟨tg, iter, ifs, 0⟩] scope gpos] [] pos) (tGx 0 stSum fiSum tc ti g' tt te (own.map (·.2))) := by
  constructor
  intro pins s σ H Q I h
  refine wpAny_Call_Name_kw (ld_blt I glob free (show bootBuiltins "sum" = some (.builtin "sum") by decide +kernel) (callWith_builtin1 ?_ one (by rfl)) (by decide) (by decide))
  rw [one]
  refine Calls.spliced_cons (gx_eval I hN hr hi hpc BA ok hs h fun J code H3 s3 it fp tn a g gob s5 want M => Calls.spliced_nil ?_)
  obtain ⟨W, ⟨m0, w0⟩, turn⟩ := want
  have hd : X.A.depth < recursionLimit := by have := hr.dp; omega
  have hB := M.bok (A := X.A.in1.in1) hr.hd I.ok.frames
  have I5 := M.sub _ hB
  have rm := room_in hr (gEnv X scope s3 code)
  have hSc : cStatics < s5.heap.objs.size := let ⟨_, hn, _⟩ := I5.nolimit; hn.lt
  refine call_function_tree F.kind_sum F.plain_sum F.entry_sum (F.args_sum1 _) ?_
  unfold Builtin.«sum»
  simp only [List.length_cons, List.length_nil]
  rw [if_neg (by decide)]
  refine wpAny_bind (wpAny_of_eq (show Builtin.Builtins.bindParams "sum" ["start"] 0 { } = pure [none] from rfl) ?_)
  refine wpAny_bind (wpAny_pyIter_gen (M.isGen M.get) ?_)
  refine wpAny_bind (wpAny_mkInt ?_)
  refine wpAny_bind (wpAny_pure ?_)
  simp only [List.forIn_cons, List.forIn_nil]
  refine wpAny_bind (wpAny_bind (wpAny_bind (wpAny_isInstance (T := "int") (b := false) (typeIs_int _ _ _) PySem.sub_int_str ?_)))
  simp only [Bool.false_eq_true, if_false]
  refine wpAny_pure (wpAny_bind (wpAny_bind (wpAny_isInstance (T := "int") (b := false) (typeIs_int _ _ _) PySem.sub_int_bytes ?_)))
  simp only [Bool.false_eq_true, if_false]
  refine wpAny_pure (wpAny_bind (wpAny_bind (wpAny_isInstance (T := "int") (b := false) (typeIs_int _ _ _) PySem.sub_int_bytearray ?_)))
  simp only [Bool.false_eq_true, if_false]
  refine wpAny_pure (wpAny_pure ?_)
  refine wpAny_bind (wpAny_newObj_type ?_)
  have eS : ({ s5 with heap := s5.heap.push { cls := .type "list", data := .seq #[Value.int 0 s5.toks] }, toks := s5.toks + 1 } : Shared).heap.get? s5.heap.objs.size = some (lstO #[.int 0 s5.toks] 0) := Heap.get?_push_size _ rfl
  have kp : ∀ b o, s5.heap.get? b = some o → (s5.heap.push { cls := .type "list", data := .seq #[Value.int 0 s5.toks] }).get? b = some o := fun b o e => Heap.get?_push_of_some _ e
  have al : a < s5.heap.objs.size := Heap.lt_size M.get
  refine wpAny_pure ⟨plainId_quiet F.plain_sum_loop _, M.sum_loop (σ0 := wipe σ (own.map (·.2))) hr.hd hd (Nat.ne_of_lt al) (Nat.ne_of_lt hSc) (fun v u H s' I' r q => ⟨v, H, I', r, q⟩) (m0 + 1) _ _ 0 _ 0 0 (.inl rfl) (kp _ _ M.get) (I5.nolimit.keeps kp) M.gen eS ?_⟩
  refine ⟨rfl, ?_⟩
  refine M.wake (A := X.A.in1.in1) ok.co hr.hd I.ok.frames (hg _ _ _ _ _ rm rfl) (ht _ _ _ _ _ rm rfl) (he _ _ _ _ _ rm rfl) turn w0 (Nat.lt_succ_self _) rfl (allBare_setGen (s := { s5 with heap := _, toks := _ }) I5.bare rfl) kp (fun b hb => ?_) ⟨_, _, eS⟩
  rw [List.mem_singleton.mp hb]
  exact ⟨Nat.le_refl _, _, eS, fun v z => by cases z⟩
theorem pe_maxX (hr : Room (k + 3) X.A) (hN : X.N.Nodup) (glob : Gl X "max") (free : X.mg "max" = none) (BA : X.base.BuiltinsAt X.mg P0) (hi : PI X tg iter ti) (hpc : PC X gpos scope tc) (ok : GOk X.N X.env.scope scope own)
    (hg : Fam X k scope fun Y _ => PG Y tg g') (ht : Fam X k scope fun Y _ => PTs Y ifs tt) (he : Fam X k scope fun Y code => PE Y elt (te code)) (hs : ∀ v, genFold iter X.env v = pure v := by intro _; rfl)
    (one : starEach [.GeneratorExp elt [⟨tg, iter, ifs, 0⟩] scope gpos] X.env = [(false, eval (.GeneratorExp elt [⟨tg, iter, ifs, 0⟩] scope gpos) X.env)] := by rfl) :
    PE X (.Call (.Name "max" p) [.GeneratorExp elt [⟨tg, iter, ifs, 0⟩] scope gpos] [] pos) (tGx none stMax fiMax tc ti g' tt te (own.map (·.2))) := by
  constructor
  intro pins s σ H Q I h
  have hname : (toString "max" ++ toString ".loop" : String) = "max.loop" := by decide
  refine wpAny_Call_Name_kw (ld_blt I glob free (show bootBuiltins "max" = some (.builtin "max") by decide +kernel) (callWith_builtin1 ?_ one (by rfl)) (by decide) (by decide))
  rw [one]
  refine Calls.spliced_cons (gx_eval I hN hr hi hpc BA ok hs h fun J code H3 s3 it fp tn a g gob s5 want M => Calls.spliced_nil ?_)
  obtain ⟨W, ⟨m0, w0⟩, turn⟩ := want
  have hd : X.A.depth < recursionLimit := by have := hr.dp; omega
  have hB := M.bok (A := X.A.in1.in1) hr.hd I.ok.frames
  have I5 := M.sub _ hB
  have rm := room_in hr (gEnv X scope s3 code)
  have hSc : cStatics < s5.heap.objs.size := let ⟨_, hn, _⟩ := I5.nolimit; hn.lt
  refine call_function_tree F.kind_max F.plain_max F.entry_max (F.args_max1 _) ?_
  show wpAny _ X.A.in1 (Builtin.Builtins.bindParams "max" ["key", "default"] 0 ⟨[], []⟩ >>= _) _ _ _
  refine wpAny_bind (wpAny_of_eq (show Builtin.Builtins.bindParams "max" ["key", "default"] 0 ⟨[], []⟩ = pure [none, none] from rfl) ?_)
  refine wpAny_bind (wpAny_pure ?_)
  refine wpAny_bind (wpAny_pyIter_gen (M.isGen M.get) ?_)
  refine wpAny_bind (wpAny_newObj_type ?_)
  have eS : ({ s5 with heap := s5.heap.push { cls := .type "list", data := .seq #[] } } : Shared).heap.get? s5.heap.objs.size = some (lstO #[] 0) := Heap.get?_push_size _ rfl
  have kp : ∀ b o, s5.heap.get? b = some o → (s5.heap.push { cls := .type "list", data := .seq #[] }).get? b = some o := fun b o e => Heap.get?_push_of_some _ e
  have al : a < s5.heap.objs.size := Heap.lt_size M.get
  rw [hname]
  refine wpAny_pure ⟨plainId_quiet F.plain_max_loop _, M.max_loop (σ0 := wipe σ (own.map (·.2))) hr.hd hd (Nat.ne_of_lt al) (Nat.ne_of_lt hSc) I5.sz (fun v u H s' I' r q => ⟨v, H, I', r, q⟩) (m0 + 1) _ _ 0 (kp _ _ M.get) (I5.nolimit.keeps kp) M.gen (.inl eS) ?_⟩
  refine ⟨rfl, ?_⟩
  refine M.wake (A := X.A.in1.in1) ok.co hr.hd I.ok.frames (hg _ _ _ _ _ rm rfl) (ht _ _ _ _ _ rm rfl) (he _ _ _ _ _ rm rfl) turn w0 (Nat.lt_succ_self _) rfl (allBare_setGen (s := { s5 with heap := _ }) I5.bare rfl) kp (fun b hb => ?_) ⟨_, eS⟩
  rw [List.mem_singleton.mp hb]
  exact ⟨Nat.le_refl _, _, eS, fun v z => by cases z⟩
end
end GX

namespace GX
open PySem PySem.Spec PyProof.Rows L2 GenW
section
variable {J : It} {n : Nat} {G : Hp → Prop} {Y : Nat → Hp → V → Hp → Prop} {g : TG} {tt : TT} {te : TE} {vs : List Nat} {σ : L2.St} {Q : VK} {H2 : Hp}
theorem turns_all (w : Walk J n G Y) (fb : Nat → Bool) (Iv : Hp → Prop) (h0 : Iv H2) (hG : ∀ H, Iv H → G H)
    (turn : ∀ i x H H' (Kt : V → Hp → Prop) (Kn : Hp → Prop), i < n → Iv H → Y i H x H' → (∀ H4, Iv H4 → Kt (.bl (fb i)) H4) → (fb i = true → ∀ H4, Iv H4 → Kn H4) → g x (wipe σ vs) H' fun σ2 H2 => wipe σ2 vs = wipe σ vs ∧ tt σ2 H2 fun b H3 => if b = true then te σ2 H3 Kt else Kn H3)
    (fin : ∀ H b, Iv H → (b = true ↔ ∀ i, i < n → fb i = true) → Q (.bl b) H) : ∃ W : Nat → Nat → Unit → Hp → Prop, (∃ m, W 0 m () H2) ∧ TurnsR (stAll Q) (fiAll Q) J g tt te vs σ W := by
  refine ⟨fun i m _ H => m = n - i ∧ i ≤ n ∧ Iv H ∧ ∀ j, j < i → fb j = true, ⟨n, by simp, Nat.zero_le _, h0, fun j h => absurd h (Nat.not_lt_zero _)⟩, ?_⟩
  rintro i m _ H ⟨rfl, hi, iv, al⟩
  have q := hG H iv
  by_cases hlt : i < n
  · refine .inr ⟨w.goes i H hlt q, fun _ H' => Iv H' ∧ fb i = true, fun _ H' ⟨z1, z2⟩ => ⟨n - (i + 1), by omega, rfl, hlt, z1, fun j hj => ?_⟩, fun x H' y => turn i x H H' _ _ hlt iv (w.yields i H x H' hlt q y) (fun H4 iv4 => ⟨fb i, rfl, ?_⟩) (fun e H4 iv4 => ⟨iv4, e⟩)⟩
    · by_cases e : j = i
      · rw [e]; exact z2
      · exact al j (by omega)
    · cases e : fb i with
      | true => rw [if_pos rfl]; exact ⟨iv4, rfl⟩
      | false =>
        rw [if_neg Bool.false_ne_true]
        refine fin H4 false iv4 ⟨(fun z => nomatch z), fun z => ?_⟩
        rw [z i hlt] at e
        cases e
  · have e : i = n := by omega
    subst e
    exact .inl ⟨w.stops H q, fin H true iv ⟨fun _ j hj => al j hj, fun _ => rfl⟩⟩
theorem turns_any (w : Walk J n G Y) (fb : Nat → Bool) (Iv : Hp → Prop) (h0 : Iv H2) (hG : ∀ H, Iv H → G H)
    (turn : ∀ i x H H' (Kt : V → Hp → Prop) (Kn : Hp → Prop), i < n → Iv H → Y i H x H' → (∀ H4, Iv H4 → Kt (.bl (fb i)) H4) → (fb i = false → ∀ H4, Iv H4 → Kn H4) → g x (wipe σ vs) H' fun σ2 H2 => wipe σ2 vs = wipe σ vs ∧ tt σ2 H2 fun b H3 => if b = true then te σ2 H3 Kt else Kn H3)
    (fin : ∀ H b, Iv H → (b = true ↔ ∃ i, i < n ∧ fb i = true) → Q (.bl b) H) : ∃ W : Nat → Nat → Unit → Hp → Prop, (∃ m, W 0 m () H2) ∧ TurnsR (stAny Q) (fiAny Q) J g tt te vs σ W := by
  refine ⟨fun i m _ H => m = n - i ∧ i ≤ n ∧ Iv H ∧ ∀ j, j < i → fb j = false, ⟨n, by simp, Nat.zero_le _, h0, fun j h => absurd h (Nat.not_lt_zero _)⟩, ?_⟩
  rintro i m _ H ⟨rfl, hi, iv, al⟩
  have q := hG H iv
  by_cases hlt : i < n
  · refine .inr ⟨w.goes i H hlt q, fun _ H' => Iv H' ∧ fb i = false, fun _ H' ⟨z1, z2⟩ => ⟨n - (i + 1), by omega, rfl, hlt, z1, fun j hj => ?_⟩, fun x H' y => turn i x H H' _ _ hlt iv (w.yields i H x H' hlt q y) (fun H4 iv4 => ⟨fb i, rfl, ?_⟩) (fun e H4 iv4 => ⟨iv4, e⟩)⟩
    · by_cases e : j = i
      · rw [e]; exact z2
      · exact al j (by omega)
    · cases e : fb i with
      | true => rw [if_pos rfl]; exact fin H4 true iv4 ⟨fun _ => ⟨i, hlt, e⟩, fun _ => rfl⟩
      | false => rw [if_neg Bool.false_ne_true]; exact ⟨iv4, rfl⟩
  · have e : i = n := by omega
    subst e
    refine .inl ⟨w.stops H q, fin H false iv ⟨(fun z => nomatch z), fun ⟨j, hj, z⟩ => ?_⟩⟩
    rw [al j hj] at z
    cases z
theorem turns_sum (w : Walk J n G Y) (v : Nat → Int) (Iv : Hp → Prop) (h0 : Iv H2) (hG : ∀ H, Iv H → G H)
    (turn : ∀ i x H H' (Kt : V → Hp → Prop) (Kn : Hp → Prop), i < n → Iv H → Y i H x H' → (∀ H4, Iv H4 → Kt (.int (v i)) H4) → (v i = 0 → ∀ H4, Iv H4 → Kn H4) → g x (wipe σ vs) H' fun σ2 H2 => wipe σ2 vs = wipe σ vs ∧ tt σ2 H2 fun b H3 => if b = true then te σ2 H3 Kt else Kn H3)
    (fin : ∀ H, Iv H → Q (.int (preSum v n)) H) : ∃ W : Nat → Nat → Int → Hp → Prop, (∃ m, W 0 m 0 H2) ∧ TurnsR (stSum Q) (fiSum Q) J g tt te vs σ W := by
  refine ⟨fun i m acc H => m = n - i ∧ i ≤ n ∧ Iv H ∧ acc = preSum v i, ⟨n, by simp, Nat.zero_le _, h0, rfl⟩, ?_⟩
  rintro i m acc H ⟨rfl, hi, iv, rfl⟩
  have q := hG H iv
  by_cases hlt : i < n
  · refine .inr ⟨w.goes i H hlt q, fun acc' H' => Iv H' ∧ acc' = preSum v (i + 1), fun acc' H' ⟨z1, z2⟩ => ⟨n - (i + 1), by omega, rfl, hlt, z1, z2⟩, fun x H' y => turn i x H H' _ _ hlt iv (w.yields i H x H' hlt q y) (fun H4 iv4 => ⟨v i, rfl, iv4, rfl⟩) (fun e H4 iv4 => ⟨iv4, ?_⟩)⟩
    show preSum v i = preSum v i + v i
    omega
  · have e : i = n := by omega
    subst e
    exact .inl ⟨w.stops H q, fin H iv⟩
theorem turns_max (w : Walk J n G Y) (v : Nat → Int) (hn : 0 < n) (Iv : Hp → Prop) (h0 : Iv H2) (hG : ∀ H, Iv H → G H)
    (turn : ∀ i x H H' (Kt : V → Hp → Prop) (Kn : Hp → Prop), i < n → Iv H → Y i H x H' → (∀ H4, Iv H4 → Kt (.int (v i)) H4) → g x (wipe σ vs) H' fun σ2 H2 => wipe σ2 vs = wipe σ vs ∧ tt σ2 H2 fun b H3 => if b = true then te σ2 H3 Kt else Kn H3)
    (fin : ∀ H m, Iv H → (∃ i, i < n ∧ v i = m) → (∀ i, i < n → v i ≤ m) → Q (.int m) H) : ∃ W : Nat → Nat → Option Int → Hp → Prop, (∃ m, W 0 m none H2) ∧ TurnsR (stMax Q) (fiMax Q) J g tt te vs σ W := by
  refine ⟨fun i m acc H => m = n - i ∧ i ≤ n ∧ Iv H ∧ ((i = 0 ∧ acc = none) ∨ ∃ k, acc = some k ∧ (∃ j, j < i ∧ v j = k) ∧ ∀ j, j < i → v j ≤ k), ⟨n, by simp, Nat.zero_le _, h0, .inl ⟨rfl, rfl⟩⟩, ?_⟩
  rintro i m acc H ⟨rfl, hi, iv, hacc⟩
  have q := hG H iv
  by_cases hlt : i < n
  · refine .inr ⟨w.goes i H hlt q, fun acc' H' => Iv H' ∧ ∃ k, acc' = some k ∧ (∃ j, j < i + 1 ∧ v j = k) ∧ ∀ j, j < i + 1 → v j ≤ k, fun acc' H' ⟨z1, z2⟩ => ⟨n - (i + 1), by omega, rfl, hlt, z1, .inr z2⟩, fun x H' y => turn i x H H' _ _ hlt iv (w.yields i H x H' hlt q y) (fun H4 iv4 => ⟨v i, rfl, iv4, ?_⟩)⟩
    rcases hacc with ⟨rfl, rfl⟩ | ⟨k, rfl, ⟨j, hj, ej⟩, al⟩
    · exact ⟨v 0, rfl, ⟨0, by omega, rfl⟩, fun j hj => by
        have e : j = 0 := by omega
        rw [e]
        exact Int.le_refl _⟩
    · refine ⟨_, rfl, ?_, fun j' hj' => ?_⟩
      · by_cases c : k < v i
        · exact ⟨i, by omega, (if_pos c).symm⟩
        · exact ⟨j, by omega, by rw [ej]; exact (if_neg c).symm⟩
      · show v j' ≤ if k < v i then v i else k
        by_cases e : j' = i
        · rw [e]; split <;> omega
        · have := al j' (by omega)
          split <;> omega
  · have e : i = n := by omega
    subst e
    rcases hacc with ⟨e, _⟩ | ⟨k, rfl, hk, al⟩
    · omega
    · exact .inl ⟨w.stops H q, k, rfl, fin H k iv hk al⟩
end
end GX

/-! ### the cheapest places -/
/-- how far back the place ahead of s may lie -/
structure BackAt (rs : List (Int × Int)) (s b : Int) : Prop where
  lo : 0 ≤ b
  all : ∀ r ∈ rs, r.2 + 2 ≤ s → r.1 + 1 ≤ b
  one : b = 0 ∨ ∃ r ∈ rs, r.2 + 2 ≤ s ∧ b = r.1 + 1
theorem BackAt.lt {rs : List (Int × Int)} {s b : Int} (h : BackAt rs s b) (hr : ∀ r ∈ rs, r.1 ≤ r.2) (hs : 1 ≤ s) : b < s := by
  rcases h.one with z | ⟨r, h1, h2, h3⟩
  · omega
  · have := hr r h1
    omega
/-- places from the last to the first, each no further back than may be -/
def Way (rs : List (Int × Int)) : Int → List Int → Prop
  | s, [] => BackAt rs s 0
  | s, x :: l => x + 1 < s ∧ 0 ≤ x ∧ (∃ b, BackAt rs s b ∧ b ≤ x + 1) ∧ Way rs (x + 1) l
theorem BackAt.eq {rs : List (Int × Int)} {s b b' : Int} (h : BackAt rs s b) (h' : BackAt rs s b') : b = b' := by
  have a1 : b ≤ b' := by
    rcases h.one with z | ⟨r, h1, h2, h3⟩
    · have := h'.lo; omega
    · have := h'.all r h1 h2; omega
  have a2 : b' ≤ b := by
    rcases h'.one with z | ⟨r, h1, h2, h3⟩
    · have := h.lo; omega
    · have := h.all r h1 h2; omega
  omega
/-- each run that ends ahead of s has one of l -/
def HitB (rs : List (Int × Int)) (s : Int) (l : List Int) : Prop := ∀ r ∈ rs, r.2 + 2 ≤ s → ∃ x ∈ l, r.1 ≤ x ∧ x ≤ r.2
theorem Way.hit {rs : List (Int × Int)} : ∀ {l : List Int} {s : Int}, (∀ r ∈ rs, 0 ≤ r.1) → Way rs s l → HitB rs s l
  | [], s, h0, h => fun r hr e => by
    have := h.all r hr e
    have := h0 r hr
    omega
  | x :: l, s, h0, h => fun r hr e => by
    obtain ⟨h1, h2, ⟨b, hb, hx⟩, h4⟩ := h
    by_cases c : r.2 + 2 ≤ x + 1
    · obtain ⟨y, hy, e1⟩ := Way.hit h0 h4 r hr c
      exact ⟨y, List.mem_cons_of_mem _ hy, e1⟩
    · have := hb.all r hr e
      exact ⟨x, List.mem_cons_self .., by omega, by omega⟩
theorem back_ex (rs : List (Int × Int)) (h0 : ∀ r ∈ rs, 0 ≤ r.1) (s : Int) : ∃ b, BackAt rs s b := by
  induction rs with
  | nil => exact ⟨0, Int.le_refl _, (fun _ h => nomatch h), .inl rfl⟩
  | cons r rs ih =>
    obtain ⟨b, hb⟩ := ih fun x hx => h0 x (List.mem_cons_of_mem _ hx)
    have hr0 := h0 r (List.mem_cons_self ..)
    by_cases c : r.2 + 2 ≤ s ∧ b < r.1 + 1
    · refine ⟨r.1 + 1, by omega, fun x hx e => ?_, .inr ⟨r, List.mem_cons_self .., c.1, rfl⟩⟩
      rcases List.mem_cons.mp hx with z | z
      · rw [z]; omega
      · have := hb.all x z e; omega
    · refine ⟨b, hb.lo, fun x hx e => ?_, ?_⟩
      · rcases List.mem_cons.mp hx with z | z
        · rw [z] at e ⊢; omega
        · exact hb.all x z e
      · rcases hb.one with z | ⟨x, h1, h2, h3⟩
        · exact .inl z
        · exact .inr ⟨x, List.mem_cons_of_mem _ h1, h2, h3⟩
/-- falling, all within -/
def Fall : Int → List Int → Prop
  | _, [] => True
  | s, x :: l => x + 1 < s ∧ 0 ≤ x ∧ Fall (x + 1) l
theorem Fall.lt : ∀ {l : List Int} {s : Int}, Fall s l → ∀ x ∈ l, x + 1 < s
  | y :: l, s, h, x, hx => by
    rcases List.mem_cons.mp hx with z | z
    · rw [z]; exact h.1
    · have := Fall.lt h.2.2 x z
      have := h.1
      omega
theorem Way.fall {rs : List (Int × Int)} : ∀ {l : List Int} {s : Int}, Way rs s l → Fall s l
  | [], _, _ => trivial
  | _ :: _, _, h => ⟨h.1, h.2.1, Way.fall h.2.2.2⟩
theorem Way.of {rs : List (Int × Int)} (h0 : ∀ r ∈ rs, 0 ≤ r.1) : ∀ {l : List Int} {s : Int}, Fall s l → HitB rs s l → Way rs s l
  | [], s, _, h => ⟨Int.le_refl _, fun r hr e => (let ⟨_, hx, _⟩ := h r hr e; nomatch hx), .inl rfl⟩
  | x :: l, s, f, h => by
    obtain ⟨b, hb⟩ := back_ex rs h0 s
    refine ⟨f.1, f.2.1, ⟨b, hb, ?_⟩, Way.of h0 f.2.2 fun r hr e => ?_⟩
    · rcases hb.one with z | ⟨r, h1, h2, h3⟩
      · have := f.2.1; omega
      · obtain ⟨y, hy, e1, e2⟩ := h r h1 h2
        rcases List.mem_cons.mp hy with z | z
        · rw [z] at e1; omega
        · have := Fall.lt f.2.2 y z; omega
    · obtain ⟨y, hy, e1, e2⟩ := h r hr (by have := f.1; omega)
      rcases List.mem_cons.mp hy with z | z
      · rw [z] at e2; omega
      · exact ⟨y, z, e1, e2⟩
/-- what places cost -/
def costF (pr : Int → Int) (l : List Int) : Int := (l.map pr).sum
/-- the least costs up to the k-th spot: c of a spot with its own price, back where it comes from -/
structure Costs (rs : List (Int × Int)) (pr : Int → Int) (k : Int) (c back : Int → Int) : Prop where
  zero : c 0 = 0
  from_ : ∀ s, 1 ≤ s → s ≤ k → 0 ≤ back s ∧ back s < s ∧ (∃ b, BackAt rs s b ∧ b ≤ back s) ∧ c s = c (back s) + pr (s - 1)
  least : ∀ s, 1 ≤ s → s ≤ k → ∀ b o, BackAt rs s b → b ≤ o → o < s → c s ≤ c o + pr (s - 1)
theorem Costs.low {rs : List (Int × Int)} {pr : Int → Int} {k : Int} {c back : Int → Int} (C : Costs rs pr k c back) : ∀ {l : List Int} {s : Int}, 1 ≤ s → s ≤ k → Way rs s l → c s ≤ costF pr l + pr (s - 1)
  | [], s, h1, h2, h => by
    have := C.least s h1 h2 0 0 h (Int.le_refl _) (by omega)
    have := C.zero
    show c s ≤ 0 + _
    omega
  | x :: l, s, h1, h2, h => by
    obtain ⟨e1, e2, ⟨b, hb, hx⟩, h4⟩ := h
    have a1 := C.least s h1 h2 b (x + 1) hb hx e1
    have a2 := C.low (l := l) (s := x + 1) (by omega) (by omega) h4
    have e : x + 1 - 1 = x := by omega
    rw [e] at a2
    show c s ≤ (pr x + costF pr l) + _
    omega
/-- the way back from a spot -/
theorem Costs.way {rs : List (Int × Int)} {pr : Int → Int} {k : Int} {c back : Int → Int} (C : Costs rs pr k c back) {l : List Int} {s : Int} (h1 : 1 ≤ s) (h2 : s ≤ k) (h : if back s = 0 then l = [] else ∃ l', l = (back s - 1) :: l' ∧ Way rs (back s) l' ∧ costF pr l' + pr (back s - 1) = c (back s)) : Way rs s l ∧ costF pr l + pr (s - 1) = c s := by
  obtain ⟨f1, f2, ⟨b, hb, f3⟩, f4⟩ := C.from_ s h1 h2
  split at h
  · next z =>
    subst h
    rw [z] at f3 f4
    have b0 : b = 0 := by have := hb.lo; omega
    subst b0
    refine ⟨hb, ?_⟩
    have := C.zero
    show 0 + _ = _
    omega
  · next z =>
    obtain ⟨l', rfl, hw, hc⟩ := h
    refine ⟨⟨by omega, by omega, ⟨b, hb, by omega⟩, by rw [show back s - 1 + 1 = back s by omega]; exact hw⟩, ?_⟩
    show (pr (back s - 1) + costF pr l') + _ = _
    omega

/-! ### rows that are lists or tuples -/
def IntsQ (H : Hp) (a : Addr) (ns : List Int) : Prop := SqH H a (ns.map V.int)
def LsQ (H : Hp) (a : Addr) (rs : List (Int × Int)) : Prop := ∃ us, SqH H a us ∧ Prs H us rs
theorem SqH.sq {K : PySem.W.Frag} {H : Hp} {a : Addr} {xs : List V} (h : SqH H a xs) : Sq K H a xs := h.elim (fun e => .inl (SqL.of e)) (fun e => .inr (.inl (.inl e)))
theorem SqH.lq {K : PySem.W.Frag} {H : Hp} {a : Addr} {xs : List V} (h : SqH H a xs) : SqL K H a xs ∨ SqT K H a xs := h.elim (fun e => .inl (SqL.of e)) (fun e => .inr (.inl (.inl e)))
theorem SqH.same {H H' : Hp} {a : Addr} {xs : List V} (h : SqH H a xs) (s : Same H H') : SqH H' a xs := h.elim (fun e => .inl (s _ _ e)) (fun e => .inr (s _ _ e))
theorem SqH.kp {H H' : Hp} {a d c : Addr} {xs : List V} (h : SqH H a xs) (h1 : a ≠ d) (h2 : a ≠ c) (k : Kp d c H H') : SqH H' a xs := h.elim (fun e => .inl (k _ _ h1 h2 e)) (fun e => .inr (k _ _ h1 h2 e))
theorem LsQ.same {H H' : Hp} {a : Addr} {rs : List (Int × Int)} (h : LsQ H a rs) (s : Same H H') : LsQ H' a rs := by
  obtain ⟨us, e, p⟩ := h
  exact ⟨us, e.same s, p.1, fun i r er => let ⟨x, h1, h2⟩ := p.2 i r er; ⟨x, h1, s _ _ h2⟩⟩
theorem SqH.ql {K : PySem.W.Frag} {H : Hp} {a : Addr} {xs : List V} (h : SqH H a xs) : SqT K H a xs ∨ SqL K H a xs := h.elim (fun e => .inr (SqL.of e)) (fun e => .inl (.inl (.inl e)))

/-! ### things: data that is tracked, none of it the draws' own list -/
inductive Thg (c : List Addr) (H : Hp) : V → PyData → Prop
  | non : Thg c H .non .none
  | bl (b : Bool) : Thg c H (.bl b) (.bool b)
  | int (i : Int) : Thg c H (.int i) (.int i)
  | str (x : Str) : Thg c H (.str x) (.str x)
  | lst {a : Addr} {xs : List V} {ds : List PyData} : H a = some (.lst xs) → a ∉ c → xs.length = ds.length → (∀ (i : Nat) x d, xs[i]? = some x → ds[i]? = some d → Thg c H x d) → Thg c H (.ref a) (.list ds)
  | tup {a : Addr} {xs : List V} {ds : List PyData} : H a = some (.tup xs) → xs.length = ds.length → (∀ (i : Nat) x d, xs[i]? = some x → ds[i]? = some d → Thg c H x d) → Thg c H (.ref a) (.tuple ds)
/-- a row of things -/
def ThgL (c : List Addr) (H : Hp) (xs : List V) (ds : List PyData) : Prop := xs.length = ds.length ∧ ∀ (i : Nat) x d, xs[i]? = some x → ds[i]? = some d → Thg c H x d
theorem Thg.ext {c : List Addr} {H H' : Hp} {v : V} {d : PyData} (h : Thg c H v d) (kl : ∀ a xs, a ∉ c → H a = some (.lst xs) → H' a = some (.lst xs)) (kt : ∀ a xs, H a = some (.tup xs) → H' a = some (.tup xs)) : Thg c H' v d := by
  induction h with
  | non => exact .non
  | bl b => exact .bl b
  | int i => exact .int i
  | str x => exact .str x
  | lst e n l _ ih => exact .lst (kl _ _ n e) n l ih
  | tup e l _ ih => exact .tup (kt _ _ e) l ih
theorem Thg.same {c : List Addr} {H H' : Hp} {v : V} {d : PyData} (h : Thg c H v d) (s : Same H H') : Thg c H' v d := h.ext (fun _ _ _ e => s _ _ e) fun _ _ e => s _ _ e
theorem Thg.noTab {c : List Addr} {H H' : Hp} {v : V} {d : PyData} (h : Thg c H v d) (n : GX.NoTab H H') : Thg c H' v d := h.ext (fun _ _ _ e => n.lst e) fun _ _ e => n.tup e
theorem Thg.kp {c d0 : Addr} {cs : List Addr} {H H' : Hp} {t : Int} {v : V} {d : PyData} (h : Thg cs H v d) (S : StAt H d0 c t) (k : Kp d0 c H H') (m : c ∈ cs) : Thg cs H' v d :=
  h.ext (fun a xs n e => k a _ (ne_of e S.dict (fun z => nomatch z)) (fun z => n (z ▸ m)) e) fun a xs e => by
    obtain ⟨cs, ec, _⟩ := S.cells
    exact k a _ (ne_of e S.dict (fun z => nomatch z)) (ne_of e ec (fun z => nomatch z)) e
theorem ThgL.same {c : List Addr} {H H' : Hp} {xs : List V} {ds : List PyData} (h : ThgL c H xs ds) (s : Same H H') : ThgL c H' xs ds := ⟨h.1, fun i x d e1 e2 => (h.2 i x d e1 e2).same s⟩
theorem ThgL.noTab {c : List Addr} {H H' : Hp} {xs : List V} {ds : List PyData} (h : ThgL c H xs ds) (s : GX.NoTab H H') : ThgL c H' xs ds := ⟨h.1, fun i x d e1 e2 => (h.2 i x d e1 e2).noTab s⟩
theorem ThgL.kp {c d0 : Addr} {cs : List Addr} {H H' : Hp} {t : Int} {xs : List V} {ds : List PyData} (h : ThgL cs H xs ds) (S : StAt H d0 c t) (k : Kp d0 c H H') (m : c ∈ cs) : ThgL cs H' xs ds := ⟨h.1, fun i x d e1 e2 => (h.2 i x d e1 e2).kp S k m⟩
theorem ThgL.nil {c : List Addr} {H : Hp} : ThgL c H [] [] := ⟨rfl, fun i x d e => by simp at e⟩
theorem ThgL.append {c : List Addr} {H : Hp} {xs ys : List V} {ds es : List PyData} (h : ThgL c H xs ds) (h' : ThgL c H ys es) : ThgL c H (xs ++ ys) (ds ++ es) := by
  refine ⟨by rw [List.length_append, List.length_append, h.1, h'.1], fun i x d e1 e2 => ?_⟩
  by_cases c1 : i < xs.length
  · rw [List.getElem?_append_left c1] at e1
    rw [List.getElem?_append_left (by rw [← h.1]; exact c1)] at e2
    exact h.2 i x d e1 e2
  · rw [List.getElem?_append_right (by omega)] at e1
    rw [List.getElem?_append_right (by rw [← h.1]; omega), ← h.1] at e2
    exact h'.2 _ x d e1 e2
theorem ThgL.one {c : List Addr} {H : Hp} {x : V} {d : PyData} (h : Thg c H x d) : ThgL c H [x] [d] := ⟨rfl, fun i y e e1 e2 => by
  cases i with
  | zero => cases e1; cases e2; exact h
  | succ i => simp at e1⟩
theorem ThgL.cons {c : List Addr} {H : Hp} {x : V} {d : PyData} {xs : List V} {ds : List PyData} (h : Thg c H x d) (hs : ThgL c H xs ds) : ThgL c H (x :: xs) (d :: ds) := (ThgL.one h).append hs
theorem ThgL.take {c : List Addr} {H : Hp} {xs : List V} {ds : List PyData} (h : ThgL c H xs ds) (n : Nat) : ThgL c H (xs.take n) (ds.take n) := by
  refine ⟨by rw [List.length_take, List.length_take, h.1], fun i x d e1 e2 => ?_⟩
  rw [List.getElem?_take] at e1 e2
  split at e1
  · rename_i c1
    rw [if_pos c1] at e2
    exact h.2 i x d e1 e2
  · cases e1
theorem ThgL.drop {c : List Addr} {H : Hp} {xs : List V} {ds : List PyData} (h : ThgL c H xs ds) (n : Nat) : ThgL c H (xs.drop n) (ds.drop n) := by
  refine ⟨by rw [List.length_drop, List.length_drop, h.1], fun i x d e1 e2 => ?_⟩
  rw [List.getElem?_drop] at e1 e2
  exact h.2 _ x d e1 e2
theorem ThgL.reverse {c : List Addr} {H : Hp} {xs : List V} {ds : List PyData} (h : ThgL c H xs ds) : ThgL c H xs.reverse ds.reverse := by
  refine ⟨by rw [List.length_reverse, List.length_reverse, h.1], fun i x d e1 e2 => ?_⟩
  have l1 := (List.getElem?_eq_some_iff.mp e1).1
  rw [List.length_reverse] at l1
  rw [List.getElem?_reverse l1] at e1
  rw [List.getElem?_reverse (by rw [← h.1]; exact l1), ← h.1] at e2
  exact h.2 _ x d e1 e2
theorem ThgL.set {c : List Addr} {H : Hp} {xs : List V} {ds : List PyData} {x : V} {d : PyData} (h : ThgL c H xs ds) (n : Nat) (hx : Thg c H x d) : ThgL c H (xs.set n x) (ds.set n d) := by
  refine ⟨by rw [List.length_set, List.length_set, h.1], fun i y e e1 e2 => ?_⟩
  rw [List.getElem?_set] at e1 e2
  split at e1
  · rename_i c1
    rw [if_pos c1] at e2
    split at e1
    · cases e1
      split at e2
      · cases e2; exact hx
      · cases e2
    · cases e1
  · rename_i c1
    rw [if_neg c1] at e2
    exact h.2 i y e e1 e2
theorem Thg.dp {K : PySem.W.Frag} {c : List Addr} {H : Hp} {v : V} {d : PyData} (h : Thg c H v d) : Dp K H v d := by
  have all : ∀ (xs : List V) (ds : List PyData), xs.length = ds.length → (∀ (i : Nat) x d, xs[i]? = some x → ds[i]? = some d → Dp K H x d) → DpAll K H xs ds := by
    intro xs
    induction xs with
    | nil => intro ds l _; cases ds with | nil => exact .nil | cons => cases l
    | cons x xs ih => intro ds l k; cases ds with | nil => cases l | cons e es => exact .cons (k 0 x e rfl rfl) (ih es (Nat.succ.inj l) fun i y f e1 e2 => k (i + 1) y f e1 e2)
  induction h with
  | non => exact .non
  | bl b => exact .bl b
  | int i => exact .int i
  | str x => exact .str x
  | lst e n l _ ih => exact .lst (SqL.of e) (all _ _ l ih)
  | tup e l _ ih => exact .tup (.inl (.inl e)) (all _ _ l ih)
/-- the parts of a list or a tuple -/
def rowOf : PyData → Option (List PyData)
  | .list ds => some ds
  | .tuple ds => some ds
  | _ => none
theorem Thg.row {c : List Addr} {H : Hp} {v : V} {d : PyData} {ds : List PyData} (h : Thg c H v d) (e : rowOf d = some ds) : ∃ a xs, v = .ref a ∧ SqH H a xs ∧ ThgL c H xs ds := by
  cases h with
  | non => cases e
  | bl b => cases e
  | int i => cases e
  | str x => cases e
  | lst e1 n l k => cases e; exact ⟨_, _, rfl, .inl e1, l, k⟩
  | tup e1 l k => cases e; exact ⟨_, _, rfl, .inr e1, l, k⟩
def isNumD : PyData → Bool
  | .int i => decide (0 ≤ i)
  | _ => false
def intD : PyData → Int
  | .int i => i
  | _ => 0
/-- the numbers of a row of numbers from 0 up -/
def numsOf (d : PyData) : Option (List Int) := match rowOf d with
  | some ds => if ds.all isNumD then some (ds.map intD) else none
  | none => none
theorem isNumD_int {d : PyData} (h : isNumD d = true) : ∃ i, d = .int i ∧ 0 ≤ i := by
  cases d <;> first | cases h | exact ⟨_, rfl, of_decide_eq_true h⟩
theorem nums_of {c : List Addr} {H : Hp} {v : V} {d : PyData} {ns : List Int} (h : Thg c H v d) (e : numsOf d = some ns) : ∃ a, v = .ref a ∧ IntsQ H a ns ∧ ∀ n ∈ ns, 0 ≤ n := by
  unfold numsOf at e
  cases hr : rowOf d with
  | none => rw [hr] at e; cases e
  | some ds =>
    rw [hr] at e
    by_cases c1 : ds.all isNumD = true
    · have e : (if ds.all isNumD then some (ds.map intD) else none) = some ns := e
      rw [if_pos c1] at e
      cases e
      obtain ⟨a, xs, rfl, hs, hl⟩ := h.row hr
      rw [List.all_eq_true] at c1
      have ex : xs = (ds.map intD).map V.int := by
        refine List.ext_getElem? fun i => ?_
        rw [List.getElem?_map, List.getElem?_map]
        cases hd : ds[i]? with
        | none =>
          rw [List.getElem?_eq_none_iff] at hd
          rw [List.getElem?_eq_none (by rw [hl.1]; exact hd)]
          rfl
        | some d =>
          have lt := (List.getElem?_eq_some_iff.mp hd).1
          have hx : xs[i]? = some (xs[i]'(by rw [hl.1]; exact lt)) := List.getElem?_eq_getElem _
          obtain ⟨j, rfl, _⟩ := isNumD_int (c1 d (List.mem_of_getElem? hd))
          have := hl.2 i _ _ hx hd
          rw [hx]
          generalize xs[i]'(by rw [hl.1]; exact lt) = x at this
          cases this
          rfl
      refine ⟨a, rfl, by rw [ex] at hs; exact hs, fun n hn => ?_⟩
      obtain ⟨d, hd, rfl⟩ := List.mem_map.mp hn
      obtain ⟨j, rfl, h0⟩ := isNumD_int (c1 d hd)
      exact h0
    · have e : (if ds.all isNumD then some (ds.map intD) else none) = some ns := e
      rw [if_neg c1] at e
      cases e
theorem thg_ints {c : List Addr} {H : Hp} {ns : List Int} : ThgL c H (ns.map V.int) (ns.map PyData.int) := ⟨by rw [List.length_map, List.length_map], fun i x d e1 e2 => by
  rw [List.getElem?_map] at e1 e2
  cases h : ns[i]? with
  | none => rw [h] at e1; cases e1
  | some n => rw [h] at e1 e2; cases e1; cases e2; exact .int n⟩
def incB (ns : List Int) : Bool := decide (ns.Pairwise (· < ·))
theorem inc_adj : ∀ {ns : List Int}, (∀ i, i + 1 < ns.length → ns.getD i 0 < ns.getD (i + 1) 0) → ns.Pairwise (· < ·)
  | [], _ => .nil
  | [x], _ => List.pairwise_singleton _ _
  | x :: y :: r, h => by
    have ih := inc_adj (ns := y :: r) fun i hi => h (i + 1) (by simp only [List.length_cons] at hi ⊢; omega)
    have h0 : x < y := h 0 (by simp)
    refine List.pairwise_cons.mpr ⟨fun z hz => ?_, ih⟩
    rcases List.mem_cons.mp hz with e | e
    · rw [e]; exact h0
    · have := (List.pairwise_cons.mp ih).1 z e
      omega
theorem inc_iff {ns : List Int} : ns.Pairwise (· < ·) ↔ ∀ i, i + 1 < ns.length → ns.getD i 0 < ns.getD (i + 1) 0 := ⟨fun h i hi => by
  rw [List.getD_eq_getElem?_getD, List.getD_eq_getElem?_getD, List.getElem?_eq_getElem (by omega), List.getElem?_eq_getElem hi]
  exact List.pairwise_iff_getElem.mp h i (i + 1) (by omega) hi (by omega), inc_adj⟩
def hitB (rs : List (Int × Int)) (row : List Int) : Bool := rs.all fun r => row.any fun n => decide (r.1 ≤ n) && decide (n ≤ r.2)

/-! ### enumerate over a list or a tuple -/
theorem meets_enB {v : Value} {o : Obj} {G : Heap → Prop} (B : Begins v o G) : Meets (Builtin.«enumerate.__new__» ⟨[.type "enumerate", v], []⟩) (fun _ R s => G s.heap ∧
    R (.ok (.ret (.ref (s.heap.push o).objs.size))) { s with heap := (s.heap.push o).push { cls := .type "enumerate", data := .fields #[.none, .bool false, .ref s.heap.objs.size, rawInt 0, .none, .none] } }) :=
  .of_wp fun prog w A R s given => by
    obtain ⟨hp, g, d, tk, os⟩ := s
    obtain ⟨hg, given⟩ := given
    have sub0 := sub_enumerate
    have begun : ∀ {A' : Around} {E' Q' : Value → Shared → Prop}, Q' (.ref hp.objs.size) ⟨hp.push o, g, d, tk, os⟩ → wpAny (model prog w) A' (pyIter v) Q' E' ⟨hp, g, d, tk, os⟩ := fun q => B.iter prog w _ _ ⟨hp, g, d, tk, os⟩ _ hg q
    wp_walk using begun
    refine wpAny_stack_any fun stk => wpAny_pure ?_
    split
    · rename_i c0 _ _ _ _ _
      cases (c0 == Value.type "enumerate") <;> (wp_walk using begun; exact ⟨_, rfl, given⟩)
    · wp_walk using begun
      exact ⟨_, rfl, given⟩
theorem call_enB {prog : Program} {w : World} {A : Around} {E Q : Value → Shared → Prop} {s : Shared} {v : Value} {o : Obj} {G : Heap → Prop} (B : Begins v o G) (hg : G s.heap)
    (h : ∀ h', IsEnum h' (s.heap.objs.size + 1) s.heap.objs.size 0 .none → h'.get? s.heap.objs.size = some o → (∀ b o, s.heap.get? b = some o → h'.get? b = some o) → Q (.ref (s.heap.objs.size + 1)) { s with heap := h' }) : wpAny (model prog w) A (call (.type "enumerate") [v]) Q E s := by
  refine callType_new F.called_enumerate (by decide) (F.typeCall_enumerate_1 _) (F.newCall_enumerate_1 _) (fun obj => F.args_object_init_2 obj _) F.entry_enumerate_new (meets_enB B) ⟨hg, ?_⟩
  have z1 : (s.heap.push o).objs.size = s.heap.objs.size + 1 := Heap.size_push ..
  show _ ∧ _
  rw [z1]
  have made : IsEnum ((s.heap.push o).push { cls := .type "enumerate", data := .fields #[.none, .bool false, .ref s.heap.objs.size, rawInt 0, .none, .none] }) (s.heap.objs.size + 1) s.heap.objs.size 0 .none := by
    have e0 := Heap.get?_push_size (s.heap.push o) (o := { cls := .type "enumerate", data := .fields #[.none, .bool false, .ref s.heap.objs.size, rawInt 0, .none, .none] }) rfl
    rw [z1] at e0
    exact e0
  exact ⟨⟨_, made, rfl⟩, h _ made (Heap.get?_push_of_some _ (Heap.get?_push_size _ B.free)) fun b o x => Heap.get?_push_of_some _ (Heap.get?_push_of_some _ x)⟩
/-- the tuple at a as it stands, each item in a new pair -/
def IteT (K : PySem.W.Frag) (a : Addr) : It := ⟨fun i H => ∃ (xs : List V) (x : V), SqT K H a xs ∧ xs[i]? = some x, fun i H v H' => ∃ T x, v = .ref T ∧ H T = none ∧ H' = upd H T (.tup [.int (i : Nat), x]) ∧ ∀ xs, SqT K H a xs → xs[i]? = some x, fun i H => ∃ xs : List V, SqT K H a xs ∧ xs.length = i⟩
theorem turn_enT {P : Program} {w : World} {K : PySem.W.Frag} {elts : List Expr} {kk : Nat} {tpos : Pos} (a e it : Addr) (nei : e ≠ it) (nea : e ≠ a) (nai : a ≠ it) :
    Turn P w K (.Tuple elts kk tpos) (IteT K a) [e, it] e (fun i h => (∃ old, IsEnum h e it ((i : Nat) : Int) old) ∧ h.IsTupleIter it a i) where
  mem := List.mem_cons_self ..
  obj := fun i h ⟨⟨old, he⟩, ⟨o, ho, hc, hd⟩⟩ b hb => by
    rcases List.mem_cons.mp hb with z | z
    · subst z
      exact ⟨_, he, fun v q => nomatch q⟩
    · rw [List.mem_singleton.mp z]
      exact ⟨o, ho, fun v q => by rw [hd] at q; cases q⟩
  keep := fun i h h' ⟨⟨old, he⟩, hi⟩ k => ⟨⟨old, k e (List.mem_cons_self ..) _ he⟩, hi.at fun o q => k it (List.mem_cons_of_mem _ (List.mem_singleton.mpr rfl)) o q⟩
  item := by
    intro X hP hw hK hc i pins s σ H E I hf st hg
    subst hP hw hK
    obtain ⟨⟨old, he⟩, hit⟩ := st
    obtain ⟨xs, x, hq, hx⟩ := hg
    obtain ⟨its, rv, isT, _⟩ := I.tuple hq
    obtain ⟨u, hu, ru⟩ := rv.get hx
    have lte : e < s.heap.objs.size := Heap.lt_size he
    have lti : it < s.heap.objs.size := let ⟨_, q, _⟩ := hit; Heap.lt_size q
    have hui : its.toArray[i]? = some u := by simpa using hu
    have lt : i < its.toArray.size := (Array.getElem?_eq_some_iff.mp hui).1
    have D := Draws.tuple (prog := X.prog) (w := X.w) (A := X.A.in1) (I.ok.hd hc) it a nai its.toArray
    refine wpAny_pyNext_enum_itemD D he ⟨hit, isT⟩ lt nei (by intro z; rcases List.mem_cons.mp z with z | z; exact nei z; exact nea (List.mem_singleton.mp z)) fun x' h' tk hx' ho st' hT hsz hk => ?_
    have ex : u = x' := Option.some.inj (hui.symm.trans hx')
    subst ex
    refine ⟨_, rfl, wpAny_letOwnedTupleGo_enum (s := { s with heap := h', toks := tk + 1 }) ho fun h'' he' sb => ?_⟩
    have hT2 := (sb.2 _ (Nat.ne_of_gt lte)).trans hT
    have new : ObjOk X.prog X.w (upd H s.heap.objs.size (.tup [.int (i : Nat), x])) h'' s.heap.objs.size (.tup [.int (i : Nat), x]) := ⟨by show 2 ≤ sizeLine; decide, [.int i tk, u], .cons ⟨_, rfl⟩ (.cons ru .nil), ⟨_, hT2, rfl, _, rfl⟩⟩
    have I1 : Inv X pins σ (upd H s.heap.objs.size (.tup [.int (i : Nat), x])) { s with heap := h'', toks := tk + 1 } :=
      I.turnedNew (t' := tk + 1) (ch := [e, it]) (fun b ob hb q => (sb.2 b (fun z => hb (z ▸ List.mem_cons_self ..))).trans (hk b ob (fun z => hb (z ▸ List.mem_cons_self ..)) (fun z => hb (z ▸ List.mem_cons_of_mem _ (List.mem_singleton.mpr rfl))) q)) hf (Nat.le_refl _) new
    refine ⟨.ref s.heap.objs.size, _, I1, rfl, ⟨_, x, rfl, I.hok.fresh (Nat.le_refl _), rfl, fun ys hy => by rw [I.tuple_inj hy hq]; exact hx⟩, ⟨⟨u, ?_⟩, st'.1.at fun o q => (sb.2 it nei.symm).trans q⟩, fun b hb => ?_⟩
    · have e1 : ((i + 1 : Nat) : Int) = (i : Int) + 1 := by omega
      exact e1 ▸ he'
    · have ltb : b < s.heap.objs.size := by
        rcases List.mem_cons.mp hb with z | z
        · exact z ▸ lte
        · exact (List.mem_singleton.mp z) ▸ lti
      rw [upd_ne (Nat.ne_of_lt ltb)]
      exact (hf b hb).1
  done := by
    intro X hP hw hK hc i pins s σ H E I hf st hg
    subst hP hw hK
    obtain ⟨⟨old, he⟩, hit⟩ := st
    obtain ⟨xs, hq, hx⟩ := hg
    obtain ⟨its, rv, isT, _⟩ := I.tuple hq
    obtain ⟨f0, f1, _, f3, f4, f5⟩ := hf it (List.mem_cons_of_mem _ (List.mem_singleton.mpr rfl))
    have hl : its.toArray.size = i := by
      have := rv.length
      simp
      omega
    have D := Draws.tuple (prog := X.prog) (w := X.w) (A := X.A.in1) (I.ok.hd hc) it a nai its.toArray
    exact wpAny_pyNext_enum_endD D he (hl.symm ▸ ⟨hit, isT⟩) fun h' eb => ⟨rfl, I.turned (t' := s.toks) (fun b o hb q => eb b o hb q) f0 f1 f3 f4 f5⟩
  self := fun A i s Q E ⟨⟨_, he⟩, _⟩ h => wpAny_pyIter_enum he h
def iEnS (K : PySem.W.Frag) (ta : TA) : TI := fun σ H R => ta σ H fun vs H1 => ∃ a, vs = [.ref a] ∧ (((∃ xs, SqL K H1 a xs) ∧ R (Ite K a) H1) ∨ ((∃ xs, SqT K H1 a xs) ∧ R (IteT K a) H1))
theorem pi_enS {X : Cx} {e : Expr} {ta : TA} {p pos tpos : Pos} {elts : List Expr} {kk : Nat} (hg : Gl X "enumerate") (hm : X.mg "enumerate" = none) (ha : PA X [e] ta) (hs : starEach [e] X.env = [(false, eval e X.env)] := by rfl) : PI X (.Tuple elts kk tpos) (.Call (.Name "enumerate" p) [e] [] pos) (iEnS X.K ta) := by
  constructor
  intro pins s σ H R I h
  refine Call_ (ld_blt I hg hm boot_enumerate (PyProof.Rows.callWith_type1 (thn (ha.run pos pins s σ H _ I h) fun us s1 had => ?_) hs rfl))
  obtain ⟨_, H1, J, rel, a, rfl, had⟩ := had
  cases rel with | cons r rr => ?_
  cases rr
  cases r
  have apart : ∀ b ∈ [s1.heap.objs.size + 1, s1.heap.objs.size], FpOk X pins H1 b := fun b hb => by
    have le : s1.heap.objs.size ≤ b := by
      rcases List.mem_cons.mp hb with z | z
      · rw [z]; exact Nat.le_succ _
      · rw [List.mem_singleton.mp z]; exact Nat.le_refl _
    exact J.fpOk le (J.hok.fresh le)
  rcases had with ⟨⟨xs, hq⟩, q⟩ | ⟨⟨xs, hq⟩, q⟩
  · obtain ⟨its, _, isL, _⟩ := J.list hq
    exact call_enumerate_list isL.isList fun h' he hit _ hk => wpAny_pyIter_enum he ⟨_, _, _, _, H1, rfl, J.kept (t' := s1.toks) hk, turn_enum a _ _, ⟨⟨.none, he⟩, hit, Nat.succ_ne_self _⟩, apart, q⟩
  · obtain ⟨its, _, isT, _⟩ := J.tuple hq
    have lta : a < s1.heap.objs.size := let ⟨_, ho, _⟩ := id isT; Heap.lt_size ho
    exact call_enB (begins_tuple a its.toArray) isT fun h' he hit hk => wpAny_pyIter_enum he ⟨_, _, _, _, H1, rfl, J.kept (t' := s1.toks) hk, turn_enT a _ _ (Nat.succ_ne_self _) (Nat.ne_of_gt (Nat.lt_succ_of_lt lta)) (Nat.ne_of_lt lta), ⟨⟨.none, he⟩, ⟨_, hit, rfl, rfl⟩⟩, apart, q⟩
theorem walk_enT {K : PySem.W.Frag} {a : Addr} {xs : List V} : Walk (IteT K a) xs.length (fun H => SqT K H a xs) (YPair (fun i => some (.int (i : Nat))) (fun i => xs[i]?)) where
  goes := fun i _ hi q => ⟨xs, xs[i], q, List.getElem?_eq_getElem hi⟩
  stops := fun _ q => ⟨xs, q, rfl⟩
  yields := fun i H v H' _ q ⟨T, x, h1, h2, h3, h4⟩ => ⟨T, .int (i : Nat), x, h1, h2, h3, rfl, h4 xs q⟩
theorem for_enS {K : PySem.W.Frag} {a : Addr} {xs : List V} {g : TG} {tb : TS} {D : Ends} {σ : L2.St} {H0 H1 : Hp} (hq : Sq K H0 a xs) (s1 : Same H0 H1) (Pv : Nat → L2.St → Hp → Prop) (h0 : Pv 0 σ H1) (hl : ∀ i σ H', Pv i σ H' → Same H0 H')
    (turn : ∀ i x T σ H, xs[i]? = some x → Pv i σ H → H T = none → g (.ref T) σ (upd H T (.tup [.int (i : Nat), x])) fun σ2 H2 => tb { D with nx := Pv (i + 1), ct := Pv (i + 1), bk := D.nx } σ2 H2) (fin : ∀ σ H, Pv xs.length σ H → D.nx σ H) :
    ((∃ xs, SqL K H1 a xs) ∧ ForR (Ite K a) g tb D σ H1) ∨ ((∃ xs, SqT K H1 a xs) ∧ ForR (IteT K a) g tb D σ H1) := by
  have tn : ∀ i v σ H H', i < xs.length → Pv i σ H → YPair (fun i => some (.int (i : Nat))) (fun i => xs[i]?) i H v H' → g v σ H' fun σ2 H2 => tb { D with nx := Pv (i + 1), ct := Pv (i + 1), bk := D.nx } σ2 H2 := by
    rintro i v σ H H' _ hp ⟨T, x, y, rfl, nT, rfl, e1, e2⟩
    cases e1
    exact turn i y T σ H e2 hp nT
  rcases hq with h | h
  · exact .inl ⟨⟨xs, s1.seq h⟩, for_it walk_enum Pv h0 (fun i σ H' _ p => (hl i σ H' p).seq h) tn fin⟩
  · exact .inr ⟨⟨xs, same_t s1 h⟩, for_it walk_enT Pv h0 (fun i σ H' _ p => same_t (hl i σ H' p) h) tn fin⟩

/-! ### lists of texts beside the empty list -/
def okT (l : List Nat) : Prop := ∀ c ∈ l, c < 1114112
theorem okT.take {l : List Nat} (h : okT l) (n : Nat) : okT (l.take n) := fun c hc => h c (List.mem_of_mem_take hc)
theorem okT.drop {l : List Nat} (h : okT l) (n : Nat) : okT (l.drop n) := fun c hc => h c (List.mem_of_mem_drop hc)
theorem okT.app {l r : List Nat} (h : okT l) (g : okT r) : okT (l ++ r) := fun c hc => (List.mem_append.mp hc).elim (h c) (g c)
theorem okT.one {l : List Nat} (h : okT l) {i c : Nat} (e : l[i]? = some c) : okT [c] := fun d hd => by
  rw [List.mem_singleton.mp hd]
  exact h c (List.mem_of_getElem? e)
abbrev txs (ps : List (List Nat)) : List V := ps.map fun x => .str (SX.S x)
theorem txs_snoc (ps : List (List Nat)) (x : List Nat) : txs (ps ++ [x]) = txs ps ++ [.str (SX.S x)] := by simp [txs]
def txD (x : List Nat) : PyData := .str (SX.S x)
theorem dp_txs {K : PySem.W.Frag} {H : Hp} : ∀ ps : List (List Nat), DpAll K H (txs ps) (ps.map txD)
  | [] => .nil
  | _ :: r => .cons (.str _) (dp_txs r)
theorem lay_txs : ∀ ps : List (List Nat), (∀ x ∈ ps, okT x) → PyData.canLayAll0 (ps.map txD) = true
  | [], _ => by simp only [List.map_nil, PyData.canLayAll0]
  | p :: r, h => by
    rw [List.map_cons, PyData.canLayAll0, lay_txs r fun x hx => h x (List.mem_cons_of_mem _ hx), txD, PyData.canLay0, strOk_S (h p (List.mem_cons_self ..))]
    rfl
theorem depth_txs : ∀ ps : List (List Nat), PyData.depthAll (ps.map txD) ≤ 1
  | [] => by simp only [List.map_nil, PyData.depthAll]; omega
  | p :: r => by
    rw [List.map_cons, PyData.depthAll]
    have := depth_txs r
    simp [txD, PyData.depth]
    omega
theorem shaped_txs (ps : List (List Nat)) (h : ∀ x ∈ ps, okT x) : SeqAt.shaped (PyData.list (ps.map txD)) = true := by
  unfold SeqAt.shaped
  rw [PyData.canLay0, lay_txs ps h, PyData.depth, Bool.true_and]
  exact decide_eq_true (by have := depth_txs ps; omega)
theorem eqv_no {α : Type} (f : α → PyData) (ps : List α) : PyData.eqv (PyData.list (ps.map f)) (PyData.list []) = ps.isEmpty := by
  cases ps with
  | nil => simp [PyData.eqv, PyData.eqvAll]
  | cons p r => simp [PyData.eqv, PyData.eqvAll]
/-- xs != [] -/
theorem ne_nil {K : PySem.W.Frag} {H : Hp} {p l : Addr} {ps : List (List Nat)} {Q : VK} (h : ∀ x ∈ ps, okT x) (e : H p = some (.lst (txs ps))) (el : H l = some (.lst [])) (q : Q (.bl (!ps.isEmpty)) H) : rNeD K (.ref p) (.ref l) H Q :=
  ⟨_, .list [], .lst (SqL.of e) (dp_txs ps), .lst (SqL.of el) .nil, shaped_txs ps h, by rfl, by rw [eqv_no]; exact q⟩
theorem eq_nil {K : PySem.W.Frag} {H : Hp} {p l : Addr} {ps : List (List Nat)} {Q : VK} (h : ∀ x ∈ ps, okT x) (e : H p = some (.lst (txs ps))) (el : H l = some (.lst [])) (q : Q (.bl ps.isEmpty) H) : rEqD K (.ref p) (.ref l) H Q :=
  ⟨_, .list [], .lst (SqL.of e) (dp_txs ps), .lst (SqL.of el) .nil, shaped_txs ps h, by rfl, by rw [eqv_no]; exact q⟩

/-! ### the draws of texts -/
theorem sgn_at {z : Str} {n : Nat} (hn : z.cps.toList.length = n) (ho : okT z.cps.toList) {r : Int} (r0 : 0 ≤ r) (r1 : r < n) : ∃ ch, atI z.cps.toList r = some ch ∧ ch < 1114112 := by
  obtain ⟨k, rfl⟩ := Int.eq_ofNat_of_zero_le r0
  have lt : k < z.cps.toList.length := by omega
  exact ⟨_, atI_nat (List.getElem?_eq_getElem lt), ho _ (List.getElem_mem lt)⟩
theorem pick_at {xs : List V} {n : Nat} (hn : xs.length = n) {r : Int} (r0 : 0 ≤ r) (r1 : r < n) : ∃ v, atI xs r = some v ∧ v ∈ xs := by
  obtain ⟨k, rfl⟩ := Int.eq_ofNat_of_zero_le r0
  have lt : k < xs.length := by omega
  exact ⟨_, atI_nat (List.getElem?_eq_getElem lt), List.getElem_mem lt⟩
theorem joinL_nil : ∀ xs : List (List Nat), TL.joinL [] xs = xs.flatten
  | [] => rfl
  | [x] => by simp [TL.joinL]
  | x :: y :: r => by
    have ih := joinL_nil (y :: r)
    show x ++ ([] ++ TL.joinL [] (y :: r)) = _
    rw [ih]
    simp
theorem join_txs (xs : List (List Nat)) : Txt.join "" (xs.map SX.S) = SX.S xs.flatten := by
  have z := SX.join_S [] xs
  rw [joinL_nil] at z
  exact z
theorem flat_le {m : Nat} : ∀ {xs : List (List Nat)}, (∀ x ∈ xs, x.length ≤ m) → xs.flatten.length ≤ m * xs.length
  | [], _ => by simp
  | x :: r, h => by
    have h1 := h x (List.mem_cons_self ..)
    have h2 := flat_le fun y hy => h y (List.mem_cons_of_mem _ hy)
    rw [List.flatten_cons, List.length_append, List.length_cons, Nat.mul_add, Nat.mul_one]
    omega
theorem sum_txs : ∀ xs : List (List Nat), ((xs.map SX.S).map (·.length)).sum = xs.flatten.length
  | [] => rfl
  | x :: r => by
    rw [List.map_cons, List.map_cons, List.sum_cons, sum_txs r, List.flatten_cons, List.length_append, SX.S_len]
theorem fits_txs {xs : List (List Nat)} (h : xs.flatten.length ≤ 100000) : ((xs.map SX.S).map (·.length)).sum + (xs.map SX.S).length * ("" : Str).length ≤ 16777216 := by
  rw [sum_txs, show ("" : Str).length = 0 from rfl, Nat.mul_zero]
  omega
theorem okT_flat {xs : List (List Nat)} (h : ∀ x ∈ xs, okT x) : okT xs.flatten := fun c hc => by
  obtain ⟨x, hx, hc'⟩ := List.mem_flatten.mp hc
  exact h x hx c hc'
theorem txs_strs (xs : List (List Nat)) : txs xs = (xs.map SX.S).map V.str := by simp [txs]
/-- a text of so many signs at most -/
def TxS (n : Nat) (z : Str) : Prop := ∃ l, z = SX.S l ∧ l.length ≤ n ∧ okT l
theorem TxS.of {n : Nat} {l : List Nat} (h : l.length ≤ n) (o : okT l) : TxS n (SX.S l) := ⟨l, rfl, h, o⟩
theorem TxS.mono {n m : Nat} {z : Str} (h : TxS n z) (le : n ≤ m) : TxS m z := let ⟨l, e, h1, h2⟩ := h; ⟨l, e, Nat.le_trans h1 le, h2⟩
theorem TxS.len {n : Nat} {z : Str} (h : TxS n z) : z.length ≤ n := by
  obtain ⟨l, rfl, h1, _⟩ := h
  rw [SX.S_len]; exact h1
theorem TxS.cut {n : Nat} {z : Str} (h : TxS n z) (lo hi : Option Int) : TxS n (cutS z lo hi) := by
  obtain ⟨l, rfl, h1, h2⟩ := h
  unfold cutS
  rw [S_cps]
  refine ⟨_, rfl, ?_, (h2.drop _).take _⟩
  rw [List.length_take, List.length_drop]
  omega
theorem TxS.cutTo {n : Nat} {z : Str} (h : TxS n z) (k : Nat) : TxS k (cutS z none (some (k : Int))) := by
  obtain ⟨l, rfl, h1, h2⟩ := h
  rw [cutS_take]
  exact ⟨_, rfl, by rw [List.length_take]; omega, h2.take _⟩
theorem TxS.cat {n m : Nat} {y z : Str} (h : TxS n y) (g : TxS m z) : TxS (n + m) (y ++ z) := by
  obtain ⟨a, rfl, h1, h2⟩ := h
  obtain ⟨b, rfl, g1, g2⟩ := g
  exact ⟨a ++ b, SX.S_cat a b, by rw [List.length_append]; omega, h2.app g2⟩
theorem TxS.sg {c : Nat} (h : c < 1114112) : TxS 1 ⟨#[c]⟩ := ⟨[c], rfl, Nat.le_refl _, fun d hd => by rw [List.mem_singleton.mp hd]; exact h⟩
theorem TxS.fits {n : Nat} {z : Str} (h : TxS n z) (le : n ≤ 10000) : z.length ≤ sizeLine := Nat.le_trans h.len (Nat.le_trans le (by decide))
theorem TxS.fit {n m : Nat} {y z : Str} (h : TxS n y) (g : TxS m z) (le : n + m ≤ 10000) : y.length + z.length ≤ sizeLine := Nat.le_trans (Nat.add_le_add h.len g.len) (Nat.le_trans le (by decide))
theorem okT_of {l : List Nat} (h : (l.all fun c => decide (c < 1114112)) = true) : okT l := fun c hc => of_decide_eq_true (List.all_eq_true.mp h c hc)

/-! ## draws out of a box -/
structure Bx (b : Addr) (H : Hp) (t : Int) : Prop where
  at_ : ∃ n0 n1 : Int, H b = some (.lst [.int n0, .int n1, .int t]) ∧ 0 ≤ n1 ∧ n1 < 2 ^ 62
  pos : 0 ≤ t
/-- all but the box stands -/
def Kb (b : Addr) (H H' : Hp) : Prop := ∀ a o, a ≠ b → H a = some o → H' a = some o
theorem Kb.refl (b : Addr) (H : Hp) : Kb b H H := fun _ _ _ e => e
theorem Kb.trans {b : Addr} {H H1 H2 : Hp} (x : Kb b H H1) (y : Kb b H1 H2) : Kb b H H2 := fun a o n e => y a o n (x a o n e)
theorem Kb.same {b : Addr} {H H' : Hp} (s : Same H H') : Kb b H H' := fun a o _ e => s a o e
theorem Bx.same {b : Addr} {H H' : Hp} {t : Int} (x : Bx b H t) (s : Same H H') : Bx b H' t := ⟨let ⟨n0, n1, e, r⟩ := x.at_; ⟨n0, n1, s _ _ e, r⟩, x.pos⟩
theorem Bx.off {b : Addr} {H : Hp} {t : Int} (x : Bx b H t) {p : Addr} (n : H p = none) : p ≠ b := fun z => by
  obtain ⟨_, _, e, _⟩ := x.at_
  rw [z, e] at n
  cases n
theorem Bx.ne {b : Addr} {H : Hp} {t : Int} (x : Bx b H t) : H b ≠ none := fun z => x.off z rfl
theorem Bx.upd {b l : Addr} {H : Hp} {t : Int} {o : HO} (x : Bx b H t) (n : l ≠ b) : Bx b (L2.upd H l o) t := ⟨let ⟨n0, n1, e, r⟩ := x.at_; ⟨n0, n1, by rw [upd_ne n.symm]; exact e, r⟩, x.pos⟩
theorem Bx.noTab {b : Addr} {H H' : Hp} {t : Int} (x : Bx b H t) (s : GX.NoTab H H') : Bx b H' t := ⟨let ⟨n0, n1, e, r⟩ := x.at_; ⟨n0, n1, s.lst e, r⟩, x.pos⟩
theorem Kb.free {b p : Addr} {H H' : Hp} {t : Int} (k : Kb b H H') (x : Bx b H' t) (n : H' p = none) : H p = none := by
  cases e : H p with
  | none => rfl
  | some o =>
    have := k p o (x.off n) e
    rw [n] at this
    cases this
/-- what was new stands -/
theorem Kb.new {b p : Addr} {H H' : Hp} {o : HO} (k : Kb b (L2.upd H p o) H') (n : p ≠ b) : H' p = some o := k p o n upd_same
theorem Thg.kb {cs : List Addr} {b : Addr} {H H' : Hp} {v : V} {d : PyData} {t : Int} (h : Thg cs H v d) (x : Bx b H t) (k : Kb b H H') (m : b ∈ cs) : Thg cs H' v d :=
  h.ext (fun a xs n e => k a _ (fun z => n (z ▸ m)) e) fun a xs e => by
    obtain ⟨_, _, eb, _⟩ := x.at_
    exact k a _ (ne_of e eb (fun z => nomatch z)) e
theorem ThgL.kb {cs : List Addr} {b : Addr} {H H' : Hp} {xs : List V} {ds : List PyData} {t : Int} (h : ThgL cs H xs ds) (x : Bx b H t) (k : Kb b H H') (m : b ∈ cs) : ThgL cs H' xs ds := ⟨h.1, fun i y d e1 e2 => (h.2 i y d e1 e2).kb x k m⟩
theorem Thg.less {cs cs' : List Addr} {H : Hp} {v : V} {d : PyData} (h : Thg cs H v d) (w : ∀ a ∈ cs', a ∈ cs) : Thg cs' H v d := by
  induction h with
  | non => exact .non
  | bl b => exact .bl b
  | int i => exact .int i
  | str x => exact .str x
  | lst e n l _ ih => exact .lst e (fun z => n (w _ z)) l ih
  | tup e l _ ih => exact .tup e l ih
theorem ThgL.less {cs cs' : List Addr} {H : Hp} {xs : List V} {ds : List PyData} (h : ThgL cs H xs ds) (w : ∀ a ∈ cs', a ∈ cs) : ThgL cs' H xs ds := ⟨h.1, fun i y d e1 e2 => (h.2 i y d e1 e2).less w⟩
/-- a list among cs changes -/
theorem Thg.upd {cs : List Addr} {H : Hp} {v : V} {d : PyData} {l : Addr} {xs : List V} {o : HO} (h : Thg cs H v d) (e : H l = some (.lst xs)) (m : l ∈ cs) : Thg cs (L2.upd H l o) v d :=
  h.ext (fun a ys n ea => (upd_ne (show a ≠ l from fun z => n (by rw [z]; exact m))).trans ea) fun a ys ea => (upd_ne (ne_of ea e (fun z => nomatch z))).trans ea
theorem ThgL.upd {cs : List Addr} {H : Hp} {vs : List V} {ds : List PyData} {l : Addr} {xs : List V} {o : HO} (h : ThgL cs H vs ds) (e : H l = some (.lst xs)) (m : l ∈ cs) : ThgL cs (L2.upd H l o) vs ds := ⟨h.1, fun i y d e1 e2 => (h.2 i y d e1 e2).upd e m⟩
/-- an address that was free is none of the lists -/
theorem Thg.more {cs : List Addr} {H : Hp} {v : V} {d : PyData} {p : Addr} (h : Thg cs H v d) (n : H p = none) : Thg (p :: cs) H v d := by
  induction h with
  | non => exact .non
  | bl b => exact .bl b
  | int i => exact .int i
  | str x => exact .str x
  | lst e m l _ ih =>
    refine .lst e (fun z => ?_) l ih
    rcases List.mem_cons.mp z with z | z
    · rw [z, n] at e
      cases e
    · exact m z
  | tup e l _ ih => exact .tup e l ih
theorem ThgL.more {cs : List Addr} {H : Hp} {xs : List V} {ds : List PyData} {p : Addr} (h : ThgL cs H xs ds) (n : H p = none) : ThgL (p :: cs) H xs ds := ⟨h.1, fun i y d e1 e2 => (h.2 i y d e1 e2).more n⟩
theorem ThgL.lst {cs : List Addr} {H : Hp} {xs : List V} {ds : List PyData} {a : Addr} (h : ThgL cs H xs ds) (e : H a = some (.lst xs)) (n : a ∉ cs) : Thg cs H (.ref a) (.list ds) := .lst e n h.1 h.2
theorem ThgL.tup {cs : List Addr} {H : Hp} {xs : List V} {ds : List PyData} {a : Addr} (h : ThgL cs H xs ds) (e : H a = some (.tup xs)) : Thg cs H (.ref a) (.tuple ds) := .tup e h.1 h.2
theorem Thg.list {cs : List Addr} {H : Hp} {v : V} {ds : List PyData} (h : Thg cs H v (.list ds)) : ∃ a xs, v = .ref a ∧ H a = some (.lst xs) ∧ a ∉ cs ∧ ThgL cs H xs ds := by
  cases h with
  | lst e n l k => exact ⟨_, _, rfl, e, n, l, k⟩
theorem Thg.tuple {cs : List Addr} {H : Hp} {v : V} {ds : List PyData} (h : Thg cs H v (.tuple ds)) : ∃ a xs, v = .ref a ∧ H a = some (.tup xs) ∧ ThgL cs H xs ds := by
  cases h with
  | tup e l k => exact ⟨_, _, rfl, e, l, k⟩
theorem ThgL.inv {cs : List Addr} {H : Hp} {xs : List V} {d : PyData} {ds : List PyData} (h : ThgL cs H xs (d :: ds)) : ∃ x ys, xs = x :: ys ∧ Thg cs H x d ∧ ThgL cs H ys ds := by
  cases xs with
  | nil => exact nomatch h.1
  | cons x xs => exact ⟨x, xs, rfl, h.2 0 x d rfl rfl, Nat.succ.inj h.1, fun i y e e1 e2 => h.2 (i + 1) y e e1 e2⟩
theorem ThgL.inv0 {cs : List Addr} {H : Hp} {xs : List V} (h : ThgL cs H xs []) : xs = [] := List.eq_nil_of_length_eq_zero h.1
theorem ThgL.at {cs : List Addr} {H : Hp} {xs : List V} {ds : List PyData} {i : Nat} {x : V} (h : ThgL cs H xs ds) (e : xs[i]? = some x) : ∃ d, ds[i]? = some d ∧ Thg cs H x d := by
  have hi : i < ds.length := by rw [← h.1]; exact (List.getElem?_eq_some_iff.mp e).1
  exact ⟨_, List.getElem?_eq_getElem hi, h.2 i x _ e (List.getElem?_eq_getElem hi)⟩
theorem ThgL.atM {α : Type} {f : α → PyData} {cs : List Addr} {H : Hp} {xs : List V} {ys : List α} {i : Nat} {x : V} (h : ThgL cs H xs (ys.map f)) (e : xs[i]? = some x) : ∃ y, ys[i]? = some y ∧ Thg cs H x (f y) := by
  obtain ⟨d, e1, e2⟩ := h.at e
  rw [List.getElem?_map] at e1
  cases h : ys[i]? with
  | none => rw [h] at e1; cases e1
  | some y => rw [h] at e1; cases e1; exact ⟨y, rfl, e2⟩
theorem ThgL.at' {α : Type} {f : α → PyData} {cs : List Addr} {H : Hp} {xs : List V} {ys : List α} {i : Nat} {y : α} (h : ThgL cs H xs (ys.map f)) (e : ys[i]? = some y) : ∃ x, xs[i]? = some x ∧ Thg cs H x (f y) := by
  have hi : i < xs.length := by rw [h.1, List.length_map]; exact (List.getElem?_eq_some_iff.mp e).1
  exact ⟨_, List.getElem?_eq_getElem hi, h.2 i _ _ (List.getElem?_eq_getElem hi) (by rw [List.getElem?_map, e]; rfl)⟩
theorem Thg.inv_int {cs : List Addr} {H : Hp} {v : V} {i : Int} (h : Thg cs H v (.int i)) : v = .int i := by cases h; rfl
theorem Thg.inv_str {cs : List Addr} {H : Hp} {v : V} {x : Str} (h : Thg cs H v (.str x)) : v = .str x := by cases h; rfl
theorem Thg.inv_non {cs : List Addr} {H : Hp} {v : V} (h : Thg cs H v .none) : v = .non := by cases h; rfl
theorem Thg.inv_bl {cs : List Addr} {H : Hp} {v : V} {b : Bool} (h : Thg cs H v (.bool b)) : v = .bl b := by cases h; rfl
theorem thg_strs {cs : List Addr} {H : Hp} {ns : List Str} : ThgL cs H (ns.map V.str) (ns.map PyData.str) := ⟨by rw [List.length_map, List.length_map], fun i x d e1 e2 => by
  rw [List.getElem?_map] at e1 e2
  cases h : ns[i]? with
  | none => rw [h] at e1; cases e1
  | some n => rw [h] at e1 e2; cases e1; cases e2; exact .str n⟩
theorem ThgL.strs {cs : List Addr} {H : Hp} : ∀ {xs : List V} {ns : List Str}, ThgL cs H xs (ns.map PyData.str) → xs = ns.map V.str
  | _, [], h => h.inv0
  | _, n :: r, h => by
    obtain ⟨x, ys, rfl, h1, h2⟩ := ThgL.inv h
    rw [h1.inv_str, ThgL.strs h2]
    rfl
theorem ThgL.ints {cs : List Addr} {H : Hp} : ∀ {xs : List V} {ns : List Int}, ThgL cs H xs (ns.map PyData.int) → xs = ns.map V.int
  | _, [], h => h.inv0
  | _, n :: r, h => by
    obtain ⟨x, ys, rfl, h1, h2⟩ := ThgL.inv h
    rw [h1.inv_int, ThgL.ints h2]
    rfl
theorem thg_pair {cs : List Addr} {H : Hp} {a : Addr} {p : Int × Int} (e : H a = some (.tup [.int p.1, .int p.2])) : Thg cs H (.ref a) (pairD p) := ThgL.tup ((ThgL.one (.int _)).append (.one (.int _))) e
theorem Thg.pair {cs : List Addr} {H : Hp} {v : V} {p : Int × Int} (h : Thg cs H v (pairD p)) : ∃ a, v = .ref a ∧ H a = some (.tup [.int p.1, .int p.2]) := by
  obtain ⟨a, xs, rfl, e, h1⟩ := h.tuple
  obtain ⟨x, ys, rfl, h2, h3⟩ := h1.inv
  obtain ⟨y, zs, rfl, h4, h5⟩ := h3.inv
  rw [h5.inv0, h2.inv_int, h4.inv_int] at e
  exact ⟨a, rfl, e⟩
theorem ThgL.prs {cs : List Addr} {H : Hp} {us : List V} {ps : List (Int × Int)} (h : ThgL cs H us (ps.map pairD)) : Prs H us ps := ⟨by have := h.1; rwa [List.length_map] at this, fun i p ep => by
  obtain ⟨x, e1, e2⟩ := h.at' ep
  obtain ⟨a, rfl, e⟩ := e2.pair
  exact ⟨a, e1, e⟩⟩
theorem prs_thg {cs : List Addr} {H : Hp} {us : List V} {ps : List (Int × Int)} (h : Prs H us ps) : ThgL cs H us (ps.map pairD) := ⟨by rw [List.length_map]; exact h.1, fun i x d e1 e2 => by
  obtain ⟨p, a, ep, rfl, ea⟩ := prs_at h e1
  rw [List.getElem?_map, ep] at e2
  cases e2
  exact thg_pair ea⟩

/-! ### rows walked by generator expressions, comprehensions -/
theorem NoTab.same {H H' : Hp} (s : Same H H') : GX.NoTab H H' := .of s
theorem SqH.noTab {H H' : Hp} {a : Addr} {xs : List V} (h : SqH H a xs) (n : GX.NoTab H H') : SqH H' a xs := h.elim (fun e => .inl (n.lst e)) (fun e => .inr (n.tup e))
theorem LsQ.noTab {H H' : Hp} {a : Addr} {rs : List (Int × Int)} (h : LsQ H a rs) (n : GX.NoTab H H') : LsQ H' a rs := by
  obtain ⟨us, e, p⟩ := h
  exact ⟨us, e.noTab n, p.1, fun i r er => let ⟨x, h1, h2⟩ := p.2 i r er; ⟨x, h1, n.tup h2⟩⟩
theorem IntsQ.noTab {H H' : Hp} {a : Addr} {ns : List Int} (h : IntsQ H a ns) (n : GX.NoTab H H') : IntsQ H' a ns := SqH.noTab h n
theorem iseq_lc {K : PySem.W.Frag} {H : Hp} {a : Addr} {xs : List V} {g : TG} {tt : TT} {te : TE} {vs : List Nat} {σ : L2.St} {Qd : Addr → Hp → Prop} (h : SqH H a xs) (r : ∀ J G, Walk J xs.length G (YAt xs) → (∀ H', GX.NoTab H H' → G H') → ∀ D, H D = none → LcR J g tt te vs σ D Qd H) :
    ((∃ xs, SqL K H a xs) ∧ ∀ D, H D = none → LcR (Itl K a) g tt te vs σ D Qd H) ∨ ((∃ xs, SqT K H a xs) ∧ ∀ D, H D = none → LcR (Itt K a) g tt te vs σ D Qd H) := by
  rcases h with e | e
  · exact .inl ⟨⟨_, SqL.of e⟩, r _ _ walk_list fun H' n => SqL.of (n.lst e)⟩
  · exact .inr ⟨⟨_, .inl (.inl e)⟩, r _ _ walk_tup fun H' n => .inl (.inl (n.tup e))⟩

/-! ### a name's store -/
/-- lists and tuples stand -/
structure KpL (H H' : Hp) : Prop where
  l : ∀ a xs, H a = some (.lst xs) → H' a = some (.lst xs)
  t : ∀ a xs, H a = some (.tup xs) → H' a = some (.tup xs)
theorem KpL.refl (H : Hp) : KpL H H := ⟨fun _ _ e => e, fun _ _ e => e⟩
theorem KpL.trans {H H1 H2 : Hp} (a : KpL H H1) (b : KpL H1 H2) : KpL H H2 := ⟨fun x xs e => b.l x xs (a.l x xs e), fun x xs e => b.t x xs (a.t x xs e)⟩
theorem KpL.same {H H' : Hp} (s : Same H H') : KpL H H' := ⟨fun _ _ e => s _ _ e, fun _ _ e => s _ _ e⟩
/-- all but one thing stands -/
def ButS (s : Addr) (H H' : Hp) : Prop := ∀ a o, a ≠ s → H a = some o → H' a = some o
theorem ButS.refl (s : Addr) (H : Hp) : ButS s H H := fun _ _ _ e => e
theorem ButS.trans {s : Addr} {H H1 H2 : Hp} (a : ButS s H H1) (b : ButS s H1 H2) : ButS s H H2 := fun x o n e => b x o n (a x o n e)
theorem ButS.same {s : Addr} {H H' : Hp} (k : Same H H') : ButS s H H' := fun a o _ e => k a o e
theorem ButS.upd {s : Addr} {H : Hp} {o : HO} : ButS s H (upd H s o) := fun a o n e => by rw [upd_ne n]; exact e
theorem ButS.kpl {s : Addr} {H H' : Hp} {kvs : List (List L2.Key × V)} (k : ButS s H H') (e : H s = some (.dT kvs)) : KpL H H' :=
  ⟨fun a _ ea => k a _ (ne_of ea e (fun z => nomatch z)) ea, fun a _ ea => k a _ (ne_of ea e (fun z => nomatch z)) ea⟩
theorem prs_kpl {H H' : Hp} {us : List V} {ps : Prs2} (h : Prs H us ps) (k : KpL H H') : Prs H' us ps := ⟨h.1, fun i p ep => let ⟨a, e1, e2⟩ := h.2 i p ep; ⟨a, e1, k.t _ _ e2⟩⟩
theorem LsA.kpl {H H' : Hp} {l : Addr} {ps : Prs2} (h : LsA H l ps) (k : KpL H H') : LsA H' l ps := let ⟨us, e, p⟩ := h; ⟨us, k.l _ _ e, prs_kpl p k⟩
/-- pairs in a list or a tuple -/
def PrH (H : Hp) (a : Addr) (ps : Prs2) : Prop := ∃ us, SqH H a us ∧ Prs H us ps
theorem PrH.kpl {H H' : Hp} {l : Addr} {ps : Prs2} (h : PrH H l ps) (k : KpL H H') : PrH H' l ps := let ⟨us, e, p⟩ := h; ⟨us, e.imp (k.l _ _) (k.t _ _), prs_kpl p k⟩
theorem PrH.pr {K : PySem.W.Frag} {H : Hp} {l : Addr} {ps : Prs2} (h : PrH H l ps) : PrA K H l ps := let ⟨us, e, p⟩ := h; ⟨us, e.sq, p⟩
theorem LsA.prh {H : Hp} {l : Addr} {ps : Prs2} (h : LsA H l ps) : PrH H l ps := let ⟨us, e, p⟩ := h; ⟨us, .inl e, p⟩
structure StoK (SP : List Spt) (cs : List Addr) (H : Hp) (kvs : List (List L2.Key × V)) (W : Whr) : Prop where
  nd : (kvs.map (·.1)).Nodup
  ent : ∀ e ∈ kvs, ∃ sp l rs, sp ∈ SP ∧ e.1 = keyOf sp ∧ e.2 = .ref l ∧ LsA H l rs ∧ Told (SetAt W sp) rs ∧ l ∉ cs
  all : ∀ n sp, W n = some sp → ∃ e ∈ kvs, e.1 = keyOf sp
theorem StoK.len {SP : List Spt} {cs : List Addr} {H : Hp} {kvs : List (List L2.Key × V)} {W : Whr} (h : StoK SP cs H kvs W) : kvs.length ≤ SP.length := by
  have := sub_len h.nd (ys := SP.map keyOf) fun x hx => by
    obtain ⟨e, he, rfl⟩ := List.mem_map.mp hx
    obtain ⟨sp, _, _, h1, h2, _⟩ := h.ent e he
    rw [h2]
    exact List.mem_map.mpr ⟨sp, h1, rfl⟩
  rwa [List.length_map, List.length_map] at this
theorem StoK.kpl {SP : List Spt} {cs : List Addr} {H H' : Hp} {kvs : List (List L2.Key × V)} {W : Whr} (h : StoK SP cs H kvs W) (k : KpL H H') : StoK SP cs H' kvs W :=
  ⟨h.nd, fun e he => let ⟨sp, l, rs, h1, h2, h3, h4, h5⟩ := h.ent e he; ⟨sp, l, rs, h1, h2, h3, h4.kpl k, h5⟩, h.all⟩
theorem valV_some {kvs : List (List L2.Key × V)} {k : List L2.Key} {v : V} (e : valV kvs k = some v) : (k, v) ∈ kvs := by
  unfold valV at e
  obtain ⟨kv, h1, rfl⟩ := Option.map_eq_some_iff.mp e
  have h2 : kv.1 = k := of_decide_eq_true (List.find?_some (p := fun kv : List L2.Key × V => decide (kv.1 = k)) h1)
  rw [← h2]
  exact List.mem_of_find?_eq_some h1
theorem valV_none {kvs : List (List L2.Key × V)} {k : List L2.Key} (e : valV kvs k = none) : ∀ kv ∈ kvs, kv.1 ≠ k := fun kv hk z => by
  unfold valV at e
  have := List.find?_eq_none.mp (Option.map_eq_none_iff.mp e) kv hk
  exact this (decide_eq_true z)
/-- what a spot has, or nothing -/
theorem StoK.get {SP : List Spt} {cs : List Addr} {H : Hp} {kvs : List (List L2.Key × V)} {W : Whr} (h : StoK SP cs H kvs W) (sp : Spt) {z : Addr} (ez : H z = some (.lst [])) : ∃ l rs, (valV kvs (keyOf sp)).getD (.ref z) = .ref l ∧ LsA H l rs ∧ Told (SetAt W sp) rs := by
  cases e : valV kvs (keyOf sp) with
  | none =>
    refine ⟨z, [], rfl, ⟨[], ez, Prs.nil⟩, ⟨0, True.intro⟩, fun n => ⟨fun y => absurd y inS_nil, fun y => ?_⟩⟩
    obtain ⟨x, hx, ex⟩ := h.all n sp y
    exact absurd ex (valV_none e x hx)
  | some v =>
    obtain ⟨sp', l, rs, h1, h2, h3, h4, h5⟩ := h.ent _ (valV_some e)
    have := keyOf_inj h2
    subst this
    exact ⟨l, rs, h3, h4, h5.1⟩
theorem StoK.put {SP : List Spt} {cs : List Addr} {H : Hp} {kvs : List (List L2.Key × V)} {W W' : Whr} (h : StoK SP cs H kvs W) {sp : Spt} (hsp : sp ∈ SP) {l : Addr} {rs : Prs2} (hl : LsA H l rs) (ht : Told (SetAt W' sp) rs) (hlc : l ∉ cs) (oth : ∀ s', s' ≠ sp → ∀ n, W' n = some s' ↔ W n = some s') : StoK SP cs H (putK kvs (keyOf sp) (.ref l)) W' := by
  unfold putK
  by_cases c : (kvs.any fun kv => decide (kv.1 = keyOf sp)) = true
  · rw [if_pos c]
    have ek : (kvs.map fun kv => if kv.1 = keyOf sp then (kv.1, V.ref l) else kv).map (·.1) = kvs.map (·.1) := by
      rw [List.map_map]
      refine List.map_congr_left fun kv _ => ?_
      show (if kv.1 = keyOf sp then (kv.1, V.ref l) else kv).1 = kv.1
      split <;> rfl
    refine ⟨by rw [ek]; exact h.nd, fun e he => ?_, fun n s' hn => ?_⟩
    · obtain ⟨kv, hk, rfl⟩ := List.mem_map.mp he
      by_cases z : kv.1 = keyOf sp
      · rw [if_pos z]
        exact ⟨sp, l, rs, hsp, z, rfl, hl, ht, hlc⟩
      · rw [if_neg z]
        obtain ⟨s', l', rs', h1, h2, h3, h4, h5⟩ := h.ent kv hk
        have ne : s' ≠ sp := fun y => z (by rw [h2, y])
        exact ⟨s', l', rs', h1, h2, h3, h4, h5.1.cong (fun n => (oth s' ne n).symm), h5.2⟩
    · have hm : s' = sp ∨ ∃ e ∈ kvs, e.1 = keyOf s' := by
        by_cases y : s' = sp
        · exact .inl y
        · exact .inr (h.all n s' ((oth s' y n).mp hn))
      have hx : ∃ e ∈ kvs, e.1 = keyOf s' := by
        rcases hm with rfl | y
        · obtain ⟨e, he, ee⟩ := List.any_eq_true.mp c
          exact ⟨e, he, of_decide_eq_true ee⟩
        · exact y
      obtain ⟨e, he, ee⟩ := hx
      refine ⟨_, List.mem_map.mpr ⟨e, he, rfl⟩, ?_⟩
      split <;> exact ee
  · rw [if_neg c]
    have hno : ∀ e ∈ kvs, e.1 ≠ keyOf sp := fun e he z => c (List.any_eq_true.mpr ⟨e, he, decide_eq_true z⟩)
    refine ⟨?_, fun e he => ?_, fun n s' hn => ?_⟩
    · rw [List.map_append]
      refine List.nodup_append.mpr ⟨h.nd, by simp, fun x hx y hy => ?_⟩
      obtain ⟨e, he, rfl⟩ := List.mem_map.mp hx
      have hy : y = keyOf sp := by simpa using hy
      rw [hy]
      exact hno e he
    · rcases List.mem_append.mp he with z | z
      · obtain ⟨s', l', rs', h1, h2, h3, h4, h5⟩ := h.ent e z
        have ne : s' ≠ sp := fun y => hno e z (by rw [h2, y])
        exact ⟨s', l', rs', h1, h2, h3, h4, h5.1.cong (fun n => (oth s' ne n).symm), h5.2⟩
      · rw [List.mem_singleton.mp z]
        exact ⟨sp, l, rs, hsp, rfl, rfl, hl, ht, hlc⟩
    · by_cases y : s' = sp
      · exact ⟨_, List.mem_append_right _ (List.mem_singleton.mpr rfl), by rw [y]⟩
      · obtain ⟨e, he, ee⟩ := h.all n s' ((oth s' y n).mp hn)
        exact ⟨e, List.mem_append_left _ he, ee⟩
/-- the store at s: where each case of its name lies -/
structure Sto (E : List Int) (SP : List Spt) (cs : List Addr) (H : Hp) (s : Addr) (W : Whr) : Prop where
  el : E.length ≤ 300
  sl : SP.length ≤ 1000
  ch : ChW E W
  al : ∀ c ∈ cs, ∃ ws, H c = some (.lst ws)
  at_ : ∃ kvs, H s = some (.dT kvs) ∧ StoK SP cs H kvs W
theorem Sto.keep {E : List Int} {SP : List Spt} {cs : List Addr} {H H' : Hp} {s : Addr} {W : Whr} (h : Sto E SP cs H s W) (k : KpL H H') (ks : ∀ kvs, H s = some (.dT kvs) → H' s = some (.dT kvs)) : Sto E SP cs H' s W :=
  let ⟨kvs, e, m⟩ := h.at_; ⟨h.el, h.sl, h.ch, (fun c hc => let ⟨ws, e⟩ := h.al c hc; ⟨ws, k.l _ _ e⟩), kvs, ks _ e, m.kpl k⟩
theorem Sto.same {E : List Int} {SP : List Spt} {cs : List Addr} {H H' : Hp} {s : Addr} {W : Whr} (h : Sto E SP cs H s W) (k : Same H H') : Sto E SP cs H' s W := h.keep (KpL.same k) fun _ e => k _ _ e
theorem Sto.fresh {E : List Int} {SP : List Spt} {cs : List Addr} {H : Hp} {s : Addr} {W : Whr} (h : Sto E SP cs H s W) {p : Addr} (n : H p = none) : p ∉ cs := fun z => by
  obtain ⟨_, e⟩ := h.al p z
  rw [n] at e
  cases e
theorem Sto.kpl {E : List Int} {SP : List Spt} {cs : List Addr} {H H' : Hp} {s : Addr} {W : Whr} (h : Sto E SP cs H s W) (k : ButS s H H') : KpL H H' := let ⟨_, e, _⟩ := h.at_; k.kpl e
def spLay (K : PySem.W.Frag) : Sp := fun vs H Q _ => ∃ (s b c : Addr) (E : List Int) (SP : List Spt) (cs : List Addr) (W : Whr) (sp : Spt) (ps : Prs2), vs = [.ref s, .ref b, .ref c] ∧ Sto E SP cs H s W ∧ sp ∈ SP ∧ H b = some (.tup ((keyOf sp).map kV)) ∧ PrH H c ps ∧ (∃ lo, Ris lo ps) ∧ ChP E (InS ps) ∧ (∀ n, InS ps n → W n = none ∨ W n = some sp) ∧
  ∀ H', ButS s H H' → Sto E SP cs H' s (ptW W sp (InS ps)) → Q .non H'
abbrev sLay : Stmt := topS 17
theorem scLay : FnScope ["store", "spot", "cases"] ["store", "spot", "cases"] (defScope sLay) := ⟨rfl, rfl, rfl, by decide +kernel, rfl, by decide +kernel, by decide +kernel⟩
section
variable {K : PySem.W.Frag} {mg : Str → Option Value} {P : Program} {w : World} {base : Heap}
theorem ok_Lay {f : Addr} {fd : FuncData} (F : Fun K "lay" "lay" sLay f fd) (C_either : Cal P w K mg base 2 "either" ["one", "other"] (spEither K)) : FnOk P w K mg base CX0 3 f fd ["store", "spot", "cases"] (spLay K) := by
  refine F.ok scLay (fun vs H Q E h => ?_) (fun cdv A outer s H vs Q E hr h => ?_)
  · obtain ⟨s, b, c, E, SP, cs, W, sp, ps, rfl, _⟩ := h
    rfl
  · obtain ⟨s, b, c, E, SP, cs, W, sp, ps, rfl, hS, hsp, eb, hc, hr0, hcp, hno, q⟩ := h
    refine ⟨_, pss_one (ps_dput (hu_of hr) (pv 0) (pv 1) (pe_own C_either hr (by rfl) (pa_cons (pe_dget2 (hu_of hr) (pv 0) (pv 1) (pe_lst pa_nil) ⟨rfl, rfl, rfl, rfl⟩) (pa_cons (pv 2) pa_nil))) rfl), ?_⟩
    obtain ⟨kvs, es, hk⟩ := hS.at_
    refine ⟨_, rfl, s, rfl, .inr ⟨kvs, .inl es⟩, _, rfl, Nat.zero_le _, fun z nz => ?_⟩
    have sz := same_upd (o := .lst []) nz
    obtain ⟨l0, rs0, eg, h0, ht0⟩ := (hk.kpl (KpL.same sz)).get sp (upd_same (H := H) (a := z) (o := .lst []))
    refine ⟨_, DGet.t (sz _ _ es) (sz _ _ eb), ?_⟩
    rw [eg]
    have hl0 := (hS.ch.set sp).few ht0
    have hlp := hcp.few (Told.of hr0.choose_spec)
    have h300 := hS.el
    refine ⟨_, rfl, l0, c, rs0, ps, rfl, h0.prh.pr, (hc.kpl (KpL.same sz)).pr, by omega, fun l rs H1 nl hl ht _ s1 => ?_⟩
    have S := sz.trans s1
    have hlen := hk.len
    have h1000 := hS.sl
    refine ⟨_, rfl, _, rfl, s, _, rfl, DPut.t (S _ _ es) (S _ _ eb) (by rw [sizeLine_eq]; omega), ?_⟩
    have bu : ButS s H1 (upd H1 s (.dT (putK kvs (keyOf sp) (.ref l)))) := ButS.upd
    have ku := bu.kpl (S _ _ es)
    refine q _ ((ButS.same S).trans bu) ⟨hS.el, hS.sl, hS.ch.pt hcp, (fun c hc => let ⟨ws, e⟩ := hS.al c hc; ⟨ws, ku.l _ _ (S _ _ e)⟩), _, upd_same, ?_⟩
    refine ((hk.kpl (KpL.same S)).kpl ku).put hsp (hl.kpl ku) (ht.cong fun n => ?_) (hS.fresh (sz.free nl)) fun s' ne n => ?_
    · show InS rs0 n ∨ InS ps n ↔ ptW W sp (InS ps) n = some sp
      rw [pt_at, ht0.same]
      unfold SetAt
      by_cases y : InS ps n
      · exact ⟨fun _ => .inl ⟨y, rfl⟩, fun _ => .inr y⟩
      · exact ⟨fun h => h.elim (fun a => .inr ⟨y, a⟩) fun a => absurd a y, fun h => h.elim (fun a => absurd a.1 y) fun a => .inl a.2⟩
    · rw [pt_at]
      refine ⟨fun h => h.elim (fun a => absurd a.2 ne) fun a => a.2, fun h => .inr ⟨fun y => ?_, h⟩⟩
      rcases hno n y with z | z
      · rw [z] at h; cases h
      · rw [z] at h; exact ne (Option.some.inj h).symm
end
def spTakeS (K : PySem.W.Frag) : Sp := fun vs H Q _ => ∃ (s b c : Addr) (E : List Int) (SP : List Spt) (cs : List Addr) (W : Whr) (sp : Spt) (ps : Prs2), vs = [.ref s, .ref b, .ref c] ∧ Sto E SP cs H s W ∧ sp ∈ SP ∧ H b = some (.tup ((keyOf sp).map kV)) ∧ PrH H c ps ∧ (∃ lo, Ris lo ps) ∧ ChP E (InS ps) ∧
  ∀ l rs H', H l = none → LsA H' l rs → Told (fun n => W n = some sp ∧ InS ps n) rs → ButS s H H' → Sto E SP cs H' s (rmW W sp (InS ps)) → Q (.ref l) H'
abbrev sTakeS : Stmt := topS 18
theorem scTakeS : FnScope ["store", "spot", "asked", "there"] ["store", "spot", "asked"] (defScope sTakeS) := ⟨rfl, rfl, rfl, by decide +kernel, rfl, by decide +kernel, by decide +kernel⟩
section
variable {K : PySem.W.Frag} {mg : Str → Option Value} {P : Program} {w : World} {base : Heap}
theorem ok_TakeS {f : Addr} {fd : FuncData} (F : Fun K "take" "take" sTakeS f fd) (C_without : Cal P w K mg base 3 "without" ["one", "other"] (spWithout K)) (C_both_of : Cal P w K mg base 1 "both_of" ["one", "other"] (spBoth K)) : FnOk P w K mg base CX0 4 f fd ["store", "spot", "asked"] (spTakeS K) := by
  refine F.ok scTakeS (fun vs H Q E h => ?_) (fun cdv A outer s H vs Q E hr h => ?_)
  · obtain ⟨s, b, c, E, SP, cs, W, sp, ps, rfl, _⟩ := h
    rfl
  · obtain ⟨s, b, c, E, SP, cs, W, sp, ps, rfl, hS, hsp, eb, hc, hr0, hcp, q⟩ := h
    refine ⟨_, pss_cons (ps_set (i := 3) scTakeS.nd rfl (.inl rfl) (pe_dget2 (hu_of hr) (pv 0) (pv 1) (pe_lst pa_nil) ⟨rfl, rfl, rfl, rfl⟩))
      (pss_cons (ps_dput (hu_of hr) (pv 0) (pv 1) (pe_own C_without hr (by rfl) (pa_cons (pv 3) (pa_cons (pv 2) pa_nil))) rfl)
      (pss_one (ps_ret (pe_own C_both_of (hr.mono (show 1 ≤ 3 by decide)) (by rfl) (pa_cons (pv 3) (pa_cons (pv 2) pa_nil)))))), ?_⟩
    obtain ⟨kvs, es, hk⟩ := hS.at_
    refine ⟨_, rfl, s, rfl, .inr ⟨kvs, .inl es⟩, _, rfl, Nat.zero_le _, fun z nz => ?_⟩
    have sz := same_upd (o := .lst []) nz
    obtain ⟨l0, rs0, eg, h0, ht0⟩ := (hk.kpl (KpL.same sz)).get sp (upd_same (H := H) (a := z) (o := .lst []))
    refine ⟨_, DGet.t (sz _ _ es) (sz _ _ eb), ?_⟩
    rw [eg]
    have hl0 := (hS.ch.set sp).few ht0
    have hlp := hcp.few (Told.of hr0.choose_spec)
    have h300 := hS.el
    refine ⟨_, rfl, _, rfl, l0, c, rs0, ps, rfl, h0.prh.pr, (hc.kpl (KpL.same sz)).pr, ht0.ris, hr0, by omega, fun l rs H1 nl hl ht _ s1 => ?_⟩
    have S := sz.trans s1
    have hlen := hk.len
    have h1000 := hS.sl
    refine ⟨_, rfl, _, rfl, s, _, rfl, DPut.t (S _ _ es) (S _ _ eb) (by rw [sizeLine_eq]; omega), ?_⟩
    have bu : ButS s H1 (upd H1 s (.dT (putK kvs (keyOf sp) (.ref l)))) := ButS.upd
    have ku := bu.kpl (S _ _ es)
    have eN := upd_same (H := H1) (a := s) (o := .dT (putK kvs (keyOf sp) (.ref l)))
    have hN := ((hk.kpl (KpL.same S)).kpl ku).put (W' := rmW W sp (InS ps)) hsp (hl.kpl ku) (ht.cong fun n => by
      show InS rs0 n ∧ ¬ InS ps n ↔ rmW W sp (InS ps) n = some sp
      rw [rm_at, ht0.same]
      unfold SetAt
      exact and_congr Iff.rfl (not_congr ⟨fun h => ⟨rfl, h⟩, fun h => h.2⟩)) (hS.fresh (sz.free nl)) fun s' ne n => by
        rw [rm_at]
        exact ⟨fun h => h.1, fun h => ⟨h, fun y => ne y.1⟩⟩
    revert bu ku eN hN
    generalize upd H1 s (.dT (putK kvs (keyOf sp) (.ref l))) = H2
    intro bu ku eN hN
    have k2 := (KpL.same S).trans ku
    refine ⟨_, rfl, _, rfl, l0, c, rs0, ps, rfl, ((h0.kpl (KpL.same s1)).kpl ku).prh.pr, (hc.kpl k2).pr, ht0.ris, hr0, by omega, fun l2 rs2 H3 nl2 hl2 ht2 _ s3 => ?_⟩
    have bt : ButS s H H3 := ((ButS.same S).trans bu).trans (ButS.same s3)
    refine q l2 rs2 H3 ?_ hl2 (ht2.cong fun n => and_congr (ht0.same n) Iff.rfl) bt ⟨hS.el, hS.sl, hS.ch.rm hcp, (fun c hc => let ⟨ws, e⟩ := hS.al c hc; ⟨ws, s3 _ _ (k2.l _ _ e)⟩), _, s3 _ _ eN, hN.kpl (KpL.same s3)⟩
    cases e : H l2 with
    | none => rfl
    | some o =>
      by_cases y : l2 = s
      · rw [y, eN] at nl2; cases nl2
      · have := bu l2 o y (S _ _ e)
        rw [this] at nl2; cases nl2
end
theorem ButS.free {s : Addr} {H H' : Hp} {kvs : List (List L2.Key × V)} (k : ButS s H H') {p : Addr} (n : H' p = none) (e : H' s = some (.dT kvs)) : H p = none := by
  cases h : H p with
  | none => rfl
  | some o =>
    by_cases y : p = s
    · rw [y, e] at n; cases n
    · rw [k p o y h] at n; cases n
theorem Sto.free {E : List Int} {SP : List Spt} {cs : List Addr} {H H' : Hp} {s : Addr} {W : Whr} (h : Sto E SP cs H' s W) (k : ButS s H H') {p : Addr} (n : H' p = none) : H p = none := let ⟨_, e, _⟩ := h.at_; k.free n e
theorem Sto.off {E : List Int} {SP : List Spt} {cs : List Addr} {H : Hp} {s : Addr} {W : Whr} (h : Sto E SP cs H s W) {p : Addr} (n : H p = none) : p ≠ s := fun z => by
  obtain ⟨_, e, _⟩ := h.at_
  rw [z, e] at n
  cases n
/-- carried: what there was of it; what there was not -/
def spCarry (K : PySem.W.Frag) : Sp := fun vs H Q _ => ∃ (s g c : Addr) (x : Str) (E : List Int) (SP : List Spt) (cs : List Addr) (W : Whr) (sp : Spt) (ps : Prs2), vs = [.ref s, .str x, .ref g, .ref c] ∧ Sto E SP cs H s W ∧ .ly x ∈ SP ∧ sp ∈ SP ∧ H g = some (.tup ((keyOf sp).map kV)) ∧ PrH H c ps ∧ (∃ lo, Ris lo ps) ∧ ChP E (InS ps) ∧
  ∀ T l1 l2 rs1 rs2 H', H T = none → H l1 = none → H l2 = none → H' T = some (.tup [.ref l1, .ref l2]) → LsA H' l1 rs1 → Told (fun n => W n = some (.ly x) ∧ InS ps n) rs1 → LsA H' l2 rs2 → Told (fun n => InS ps n ∧ ¬ (W n = some (.ly x) ∧ InS ps n)) rs2 → ButS s H H' → Sto E SP cs H' s (caW W x sp (InS ps)) → Q (.ref T) H'
abbrev sCarry : Stmt := topS 19
theorem scCarry : FnScope ["store", "holder", "goal", "asked", "carried"] ["store", "holder", "goal", "asked"] (defScope sCarry) := ⟨rfl, rfl, rfl, by decide +kernel, rfl, by decide +kernel, by decide +kernel⟩
section
variable {K : PySem.W.Frag} {mg : Str → Option Value} {P : Program} {w : World} {base : Heap}
theorem ok_Carry {f : Addr} {fd : FuncData} (F : Fun K "carry" "carry" sCarry f fd) (C_take : Cal P w K mg base 4 "take" ["store", "spot", "asked"] (spTakeS K)) (C_lay : Cal P w K mg base 3 "lay" ["store", "spot", "cases"] (spLay K)) (C_without : Cal P w K mg base 3 "without" ["one", "other"] (spWithout K)) (c_LYING : ∃ u, mg "LYING" = some u ∧ RelV (.str "lying") u) : FnOk P w K mg base CX0 5 f fd ["store", "holder", "goal", "asked"] (spCarry K) := by
  refine F.ok scCarry (fun vs H Q E h => ?_) (fun cdv A outer s H vs Q E hr h => ?_)
  · obtain ⟨s, g, c, x, E, SP, cs, W, sp, ps, rfl, _⟩ := h
    rfl
  · obtain ⟨s, g, c, x, E, SP, cs, W, sp, ps, rfl, hS, hlx, hsp, eg, hc, hr0, hcp, q⟩ := h
    refine ⟨_, pss_cons (ps_set (i := 4) scCarry.nd rfl (.inl rfl) (pe_own C_take hr (by rfl) (pa_cons (pv 0) (pa_cons (pe_tup (pa_cons (C8.pe_gc (by rfl) c_LYING) (pa_cons (pv 1) pa_nil))) (pa_cons (pv 3) pa_nil)))))
      (pss_cons (ps_expr (pe_own C_lay (hr.mono (show 3 ≤ 4 by decide)) (by rfl) (pa_cons (pv 0) (pa_cons (pv 2) (pa_cons (pv 4) pa_nil)))))
      (pss_one (ps_ret (pe_tup (pa_cons (pv 4) (pa_cons (pe_own C_without (hr.mono (show 3 ≤ 4 by decide)) (by rfl) (pa_cons (pv 3) (pa_cons (pv 4) pa_nil))) pa_nil)))))), ?_⟩
    refine ⟨_, rfl, _, rfl, (by show 2 ≤ sizeLine; decide), fun b nb => ?_⟩
    have sb := same_upd (o := .tup [V.str "lying", .str x]) nb
    refine ⟨_, rfl, s, b, c, E, SP, cs, W, .ly x, ps, rfl, hS.same sb, hlx, upd_same, hc.kpl (KpL.same sb), hr0, hcp, fun l1 rs1 H1 nl1 hl1 ht1 b1 hS1 => ?_⟩
    have k1 := (hS.same sb).kpl b1
    have hch1 : ChP E (InS rs1) := ((hS.ch.set (.ly x)).and hcp).cong fun n => (ht1.same n).symm
    refine ⟨_, rfl, _, rfl, _, rfl, s, g, l1, E, SP, cs, _, sp, rs1, rfl, hS1, hsp, k1.t _ _ (sb _ _ eg), hl1.prh, ht1.ris, hch1, fun n hn => ?_, fun H2 b2 hS2 => ?_⟩
    · refine .inl ?_
      obtain ⟨e1, e2⟩ := (ht1.same n).mp hn
      unfold rmW
      rw [if_pos ⟨e1, e2⟩]
    have k2 := hS1.kpl b2
    have k02 := ((KpL.same sb).trans k1).trans k2
    have hlp := hcp.few (Told.of hr0.choose_spec)
    have hl1l := hch1.few (Told.of ht1.ris.choose_spec)
    have h300 := hS.el
    refine ⟨_, rfl, _, rfl, _, rfl, c, l1, ps, rs1, rfl, (hc.kpl k02).pr, (hl1.kpl k2).prh.pr, hr0, ht1.ris, by omega, fun l2 rs2 H3 nl2 hl2 ht2 _ s3 => ⟨(by show 2 ≤ sizeLine; decide), fun T nT => ?_⟩⟩
    have sT := same_upd (o := .tup [V.ref l1, .ref l2]) nT
    have bt : ButS s H (upd H3 T (.tup [V.ref l1, .ref l2])) := (((ButS.same sb).trans b1).trans b2).trans (ButS.same (s3.trans sT))
    have hS3 := hS2.same (s3.trans sT)
    have hT : Sto E SP cs H3 s (ptW (rmW W (.ly x) (InS ps)) sp (InS rs1)) := hS2.same s3
    have eW : ptW (rmW W (.ly x) (InS ps)) sp (InS rs1) = caW W x sp (InS ps) := by
      rw [show InS rs1 = fun n => W n = some (.ly x) ∧ InS ps n from funext fun n => propext (ht1.same n)]
      exact ca_eq
    rw [eW] at hS3
    refine q T l1 l2 rs1 rs2 _ (hT.free (((ButS.same sb).trans b1).trans (b2.trans (ButS.same s3))) nT) (sb.free nl1) (hS2.free (((ButS.same sb).trans b1).trans b2) nl2) upd_same ((hl1.kpl k2).kpl (KpL.same (s3.trans sT))) ht1 (hl2.same sT) (ht2.cong fun n => and_congr Iff.rfl (not_congr (ht1.same n))) bt hS3
end

/-! ### what the deeds do -/
def DeedAt (H : Hp) (D : Addr) : Deed → Prop
  | .pack n m h => H D = some (.tup [.str "pack", .str n, .int m, .str h])
  | .lade o t n a b => H D = some (.tup [.str "lade", .str o, .str t, .str n, .int a, .int b])
  | .sell h n a b => H D = some (.tup [.str "sell", .str h, .str n, .int a, .int b])
  | .back h n a b => H D = some (.tup [.str "back", .str h, .str n, .int a, .int b])
  | .tell h n t => ∃ c, H D = some (.tup [.str "tell", .str h, .str n, .ref c]) ∧ PrH H c t
theorem DeedAt.kpl {H H' : Hp} {D : Addr} {d : Deed} (h : DeedAt H D d) (k : KpL H H') : DeedAt H' D d := by
  cases d with
  | pack => exact k.t _ _ h
  | lade => exact k.t _ _ h
  | sell => exact k.t _ _ h
  | back => exact k.t _ _ h
  | tell => obtain ⟨c, e, p⟩ := h; exact ⟨c, k.t _ _ e, p.kpl k⟩
def putD (p : PutT) : PyData := .tuple [.str p.1, .str p.2.1, .list (p.2.2.map pairD)]
theorem ThgL.kpl {cs : List Addr} {H H' : Hp} {vs : List V} {ds : List PyData} (h : ThgL cs H vs ds) (k : KpL H H') : ThgL cs H' vs ds := ⟨h.1, fun i v d e1 e2 => (h.2 i v d e1 e2).ext (fun a xs _ e => k.l a xs e) fun a xs e => k.t a xs e⟩
theorem Thg.kpl {cs : List Addr} {H H' : Hp} {v : V} {d : PyData} (h : Thg cs H v d) (k : KpL H H') : Thg cs H' v d := h.ext (fun a xs _ e => k.l a xs e) fun a xs e => k.t a xs e
theorem LsA.thg {cs : List Addr} {H : Hp} {l : Addr} {rs : Prs2} (h : LsA H l rs) (n : l ∉ cs) : Thg cs H (.ref l) (.list (rs.map pairD)) := let ⟨_, e, p⟩ := h; (prs_thg p).lst e n
theorem prs_one {H : Hp} {a : Addr} {x y : Int} (e : H a = some (.tup [.int x, .int y])) : Prs H [.ref a] [(x, y)] := GP.Prs.nil.snoc e
def isPack : Deed → Bool | .pack .. => true | _ => false
def isLade : Deed → Bool | .lade .. => true | _ => false
def isEnd : Deed → Bool | .sell .. => true | .back .. => true | _ => false
def isTell : Deed → Bool | .tell .. => true | _ => false
/-- a deed is done -/
def spDo (c : Deed → Bool) : Sp := fun vs H Q _ => ∃ (s D : Addr) (num : Int) (d : Deed) (E : List Int) (SP : List Spt) (cs : List Addr) (W : Whr), vs = [.ref s, .int num, .ref D] ∧ c d = true ∧ DeedAt H D d ∧ d.Fit E SP num ∧ Sto E SP cs H s W ∧ (isPack d = true → ∀ n, W n = none) ∧
  ∀ T x y H', H T = none → H' T = some (.tup [x, y]) → (∀ cs : List Addr, (∀ c ∈ cs, H c ≠ none) → Thg cs H' x (.list ((doF num d W).2.1.map pairD)) ∧ Thg cs H' y (.list ((doF num d W).2.2.map putD))) → ButS s H H' → Sto E SP cs H' s (doF num d W).1 → Q (.ref T) H'
theorem thg_put {cs : List Addr} {H : Hp} {T l : Addr} {a b : Str} {rs : Prs2} (e : H T = some (.tup [.str a, .str b, .ref l])) (h : LsA H l rs) (n : l ∉ cs) : Thg cs H (.ref T) (putD (a, b, rs)) :=
  ThgL.tup (.cons (.str _) (.cons (.str _) (.one (h.thg n)))) e
abbrev sDoPack : Stmt := topS 20
theorem scDoPack : FnScope ["store", "number", "deed", "many", "holder"] ["store", "number", "deed"] (defScope sDoPack) := ⟨rfl, rfl, rfl, by decide +kernel, rfl, by decide +kernel, by decide +kernel⟩
section
variable {K : PySem.W.Frag} {mg : Str → Option Value} {P : Program} {w : World} {base : Heap}
theorem ok_DoPack {f : Addr} {fd : FuncData} (F : Fun K "do_pack" "do_pack" sDoPack f fd) (C_lay : Cal P w K mg base 3 "lay" ["store", "spot", "cases"] (spLay K)) (c_LYING : ∃ u, mg "LYING" = some u ∧ RelV (.str "lying") u) : FnOk P w K mg base CX0 6 f fd ["store", "number", "deed"] (spDo isPack) := by
  refine F.ok scDoPack (fun vs H Q E h => ?_) (fun cdv A outer s H vs Q E hr h => ?_)
  · obtain ⟨s, D, num, d, E, SP, cs, W, rfl, _⟩ := h
    rfl
  · obtain ⟨s, D, num, d, E, SP, cs, W, rfl, hd, eD, hf, hS, hW, q⟩ := h
    refine ⟨_, pss_cons (ps_par rfl scDoPack.nd (i := 3) (j := 4) rfl rfl (by decide) rfl rfl (pa_cons (pe_ix ix_tup (pv 2) pe_int (fun _ _ => rfl)) (pa_cons (pe_ix ix_tup (pv 2) pe_int (fun _ _ => rfl)) pa_nil)) (by rfl))
      (pss_cons (ps_expr (pe_own C_lay (hr.mono (show 3 ≤ 5 by decide)) (by rfl) (pa_cons (pv 0) (pa_cons (pe_tup (pa_cons (C8.pe_gc (by rfl) c_LYING) (pa_cons (pv 4) pa_nil))) (pa_cons (pe_lst (pa_cons (pe_tup (pa_cons pe_int (pa_cons (pe_op op_sub (pv 3) pe_int) pa_nil))) pa_nil)) pa_nil)))))
      (pss_one (ps_ret (pe_tup (pa_cons (pe_lst pa_nil) (pa_cons (pe_lst (pa_cons (pe_tup (pa_cons pe_str (pa_cons (pv 4) (pa_cons (pe_lst (pa_cons (pe_tup (pa_cons pe_int (pa_cons (pe_op op_sub (pv 3) pe_int) pa_nil))) pa_nil)) pa_nil)))) pa_nil)) pa_nil)))))), ?_⟩
    cases d with
    | pack n m h =>
      obtain ⟨m1, e0, em, hh⟩ := hf
      have eD : H D = some (.tup [.str "pack", .str n, .int m, .str h]) := eD
      refine ⟨_, rfl, D, _, 2, _, rfl, rfl, .inl (.inl eD), atI_nat (j := 2) rfl, _, rfl, D, _, 3, _, rfl, rfl, .inl (.inl eD), atI_nat (j := 3) rfl, _, _, rfl, ?_⟩
      refine ⟨_, rfl, _, rfl, (by show 2 ≤ sizeLine; decide), fun b nb => ⟨_, rfl, _, _, rfl, rfl, (by show 2 ≤ sizeLine; decide), fun p np => ⟨(by show 1 ≤ sizeLine; decide), fun l nl => ?_⟩⟩⟩
      have sb := same_upd (o := .tup [V.str "lying", .str h]) nb
      have sp := same_upd (o := .tup [V.int 0, .int (m - 1)]) np
      have sl := same_upd (o := .lst [V.ref p]) nl
      have S3 := (sb.trans sp).trans sl
      have eb := sl _ _ (sp _ _ (upd_same (H := H) (a := b) (o := .tup [V.str "lying", .str h])))
      have el : LsA (upd (upd (upd H b (.tup [V.str "lying", .str h])) p (.tup [V.int 0, .int (m - 1)])) l (.lst [V.ref p])) l [(0, m - 1)] := ⟨_, upd_same, prs_one (sl _ _ upd_same)⟩
      revert S3 eb el
      generalize upd (upd (upd H b (.tup [V.str "lying", .str h])) p (.tup [V.int 0, .int (m - 1)])) l (.lst [V.ref p]) = H3
      intro S3 eb el
      have hch : ChP E (InS [(0, m - 1)]) := (askS_ch e0 (by rw [Int.sub_add_cancel]; exact em)).cong fun n => askS_in.symm
      refine ⟨s, b, l, E, SP, cs, W, .ly h, [(0, m - 1)], rfl, hS.same S3, hh, eb, el.prh, ⟨0, Int.le_refl _, (by show 0 ≤ m - 1; omega), True.intro⟩, hch, fun n _ => .inl (hW rfl n), fun H4 b4 hS4 => ?_⟩
      refine ⟨Nat.zero_le _, fun l1 nl1 => ⟨_, rfl, _, rfl, _, _, rfl, rfl, (by show 2 ≤ sizeLine; decide), fun p2 np2 => ⟨(by show 1 ≤ sizeLine; decide), fun l2 nl2 => ⟨(by show 3 ≤ sizeLine; decide), fun T1 nT1 => ⟨(by show 1 ≤ sizeLine; decide), fun l3 nl3 => ⟨(by show 2 ≤ sizeLine; decide), fun T nT => ?_⟩⟩⟩⟩⟩⟩
      have t1 := same_upd (o := .lst []) nl1
      have t2 := same_upd (o := .tup [V.int 0, .int (m - 1)]) np2
      have t3 := same_upd (o := .lst [V.ref p2]) nl2
      have t4 := same_upd (o := .tup [V.str "packed", .str h, .ref l2]) nT1
      have t5 := same_upd (o := .lst [V.ref T1]) nl3
      have t6 := same_upd (o := .tup [V.ref l1, .ref l3]) nT
      have t26 := (((t2.trans t3).trans t4).trans t5).trans t6
      have t16 := t1.trans t26
      have bt := ((ButS.same S3).trans b4).trans (ButS.same t16)
      have hS' := hS4.same t16
      have eW : ptW W (.ly h) (InS [(0, m - 1)]) = (doF num (.pack n m h) W).1 := by
        show ptW W (.ly h) (InS [(0, m - 1)]) = ptW W (.ly h) (AskS 0 (m - 1))
        rw [show InS [(0, m - 1)] = AskS 0 (m - 1) from funext fun n => propext askS_in]
      rw [eW] at hS'
      have hl2 : LsA (upd (upd (upd H4 l1 (.lst [])) p2 (.tup [V.int 0, .int (m - 1)])) l2 (.lst [V.ref p2])) l2 [(0, m - 1)] := ⟨_, upd_same, prs_one (t3 _ _ upd_same)⟩
      have fr : ∀ {Hm : Hp}, Same H4 Hm → ∀ {p : Addr}, Hm p = none → H p = none := fun k _ n => (hS4.same k).free (((ButS.same S3).trans b4).trans (ButS.same k)) n
      refine q T (.ref l1) (.ref l3) _ (fr (t1.trans (((t2.trans t3).trans t4).trans t5)) nT) upd_same (fun cs hc => ?_) bt hS'
      have off : ∀ {p : Addr}, H p = none → p ∉ cs := fun n z => hc _ z n
      have hT1 := thg_put (cs := cs) (rs := [(0, m - 1)]) (upd_same (a := T1) (o := .tup [V.str "packed", .str h, .ref l2])) (hl2.same t4) (off (fr (t1.trans t2) nl2))
      exact ⟨(ThgL.nil (c := cs)).lst (t26 _ _ upd_same) (off (fr (Same.refl _) nl1)), (ThgL.one ((hT1.same t5).same t6)).lst (t6 _ _ upd_same) (off (fr (t1.trans ((t2.trans t3).trans t4)) nl3))⟩
    | lade => cases hd
    | sell => cases hd
    | back => cases hd
    | tell => cases hd
end
abbrev sDoLade : Stmt := topS 21
theorem scDoLade : FnScope ["store", "number", "deed", "holder", "other", "first", "last", "carried", "short"] ["store", "number", "deed"] (defScope sDoLade) := ⟨rfl, rfl, rfl, by decide +kernel, rfl, by decide +kernel, by decide +kernel⟩
section
variable {K : PySem.W.Frag} {mg : Str → Option Value} {P : Program} {w : World} {base : Heap}
theorem ok_DoLade {f : Addr} {fd : FuncData} (F : Fun K "do_lade" "do_lade" sDoLade f fd) (C_carry : Cal P w K mg base 5 "carry" ["store", "holder", "goal", "asked"] (spCarry K)) (c_LYING : ∃ u, mg "LYING" = some u ∧ RelV (.str "lying") u) : FnOk P w K mg base CX0 6 f fd ["store", "number", "deed"] (spDo isLade) := by
  refine F.ok scDoLade (fun vs H Q E h => ?_) (fun cdv A outer s H vs Q E hr h => ?_)
  · obtain ⟨s, D, num, d, E, SP, cs, W, rfl, _⟩ := h
    rfl
  · obtain ⟨s, D, num, d, E, SP, cs, W, rfl, hd, eD, hf, hS, hW, q⟩ := h
    refine ⟨_, pss_cons (ps_asg (pe_tup (pa_cons (pe_ix ix_tup (pv 2) pe_int (fun _ _ => rfl)) (pa_cons (pe_ix ix_tup (pv 2) pe_int (fun _ _ => rfl)) (pa_cons (pe_ix ix_tup (pv 2) pe_int (fun _ _ => rfl)) (pa_cons (pe_ix ix_tup (pv 2) pe_int (fun _ _ => rfl)) pa_nil))))) (pg_tup rfl (pgs_cons (pg_name (i := 3) scDoLade.nd rfl (.inl rfl)) (pgs_cons (pg_name (i := 4) scDoLade.nd rfl (.inl rfl)) (pgs_cons (pg_name (i := 5) scDoLade.nd rfl (.inl rfl)) (pgs_cons (pg_name (i := 6) scDoLade.nd rfl (.inl rfl)) pgs_nil))))))
      (pss_cons (ps_asg (pe_own C_carry hr (by rfl) (pa_cons (pv 0) (pa_cons (pv 3) (pa_cons (pe_tup (pa_cons (C8.pe_gc (by rfl) c_LYING) (pa_cons (pv 4) pa_nil))) (pa_cons (pe_lst (pa_cons (pe_tup (pa_cons (pv 5) (pa_cons (pv 6) pa_nil))) pa_nil)) pa_nil))))) (pg_tup rfl (pgs_cons (pg_name (i := 7) scDoLade.nd rfl (.inl rfl)) (pgs_cons (pg_name (i := 8) scDoLade.nd rfl (.inl rfl)) pgs_nil))))
      (pss_one (ps_ret (pe_tup (pa_cons (pv 8) (pa_cons (pe_lst (pa_cons (pe_tup (pa_cons pe_str (pa_cons (pv 4) (pa_cons (pv 7) pa_nil)))) pa_nil)) pa_nil)))))), ?_⟩
    cases d with
    | lade o t n a b =>
      obtain ⟨ab, ea, eb, ho, ht⟩ := hf
      have eD : H D = some (.tup [.str "lade", .str o, .str t, .str n, .int a, .int b]) := eD
      refine ⟨_, rfl, D, _, 1, _, rfl, rfl, .inl (.inl eD), atI_nat (j := 1) rfl, _, rfl, D, _, 2, _, rfl, rfl, .inl (.inl eD), atI_nat (j := 2) rfl, _, rfl, D, _, 4, _, rfl, rfl, .inl (.inl eD), atI_nat (j := 4) rfl, _, rfl, D, _, 5, _, rfl, rfl, .inl (.inl eD), atI_nat (j := 5) rfl, (by show 4 ≤ sizeLine; decide), fun T0 nT0 => ?_⟩
      have s0 := same_upd (o := .tup [V.str o, .str t, .int a, .int b]) nT0
      refine ⟨T0, _, rfl, .inl (.inl upd_same), rfl, _, _, rfl, _, _, rfl, _, _, rfl, _, _, rfl, rfl, ?_⟩
      revert s0
      generalize upd H T0 (.tup [V.str o, .str t, .int a, .int b]) = H0
      intro s0
      refine ⟨_, rfl, _, rfl, _, rfl, (by show 2 ≤ sizeLine; decide), fun g ng => ⟨_, rfl, _, rfl, (by show 2 ≤ sizeLine; decide), fun p np => ⟨(by show 1 ≤ sizeLine; decide), fun l nl => ?_⟩⟩⟩
      have sg := same_upd (o := .tup [V.str "lying", .str t]) ng
      have sp := same_upd (o := .tup [V.int a, .int b]) np
      have sl := same_upd (o := .lst [V.ref p]) nl
      have S3 := s0.trans <| (sg.trans sp).trans sl
      have eg := sl _ _ (sp _ _ (upd_same (a := g) (o := .tup [V.str "lying", .str t])))
      have el : LsA (upd (upd (upd H0 g (.tup [V.str "lying", .str t])) p (.tup [.int a, .int b])) l (.lst [.ref p])) l [(a, b)] := ⟨_, upd_same, prs_one (sl _ _ upd_same)⟩
      revert S3 eg el
      generalize upd (upd (upd H0 g (.tup [V.str "lying", .str t])) p (.tup [.int a, .int b])) l (.lst [.ref p]) = H3
      intro S3 eg el
      have hch : ChP E (InS [(a, b)]) := (askS_ch ea eb).cong fun n => askS_in.symm
      refine ⟨s, g, l, o, E, SP, cs, W, .ly t, [(a, b)], rfl, hS.same S3, ho, ht, eg, el.prh, ⟨a, Int.le_refl _, ab, True.intro⟩, hch, fun T l1 l2 rs1 rs2 H4 nT nl1 nl2 eT h1 t1 h2 t2 b4 hS4 => ?_⟩
      refine ⟨T, _, rfl, .inl (.inl eT), rfl, _, _, rfl, _, _, rfl, rfl, ?_⟩
      refine ⟨_, rfl, _, rfl, _, rfl, (by show 3 ≤ sizeLine; decide), fun T1 nT1 => ⟨(by show 1 ≤ sizeLine; decide), fun l3 nl3 => ⟨(by show 2 ≤ sizeLine; decide), fun T2 nT2 => ?_⟩⟩⟩
      have u1 := same_upd (o := .tup [V.str "laded", .str t, .ref l1]) nT1
      have u2 := same_upd (o := .lst [V.ref T1]) nl3
      have u3 := same_upd (o := .tup [V.ref l2, .ref l3]) nT2
      have u13 := (u1.trans u2).trans u3
      have bt := ((ButS.same S3).trans b4).trans (ButS.same u13)
      have hS' := hS4.same u13
      have eP : InS [(a, b)] = AskS a b := funext fun n => propext askS_in
      rw [eP] at t1 t2 hS'
      have fr : ∀ {Hm : Hp}, Same H4 Hm → ∀ {p : Addr}, Hm p = none → H p = none := fun k _ n => (hS4.same k).free (((ButS.same S3).trans b4).trans (ButS.same k)) n
      refine q T2 (.ref l2) (.ref l3) _ (fr (u1.trans u2) nT2) upd_same (fun cs hc => ?_) bt hS'
      have off : ∀ {p : Addr}, H p = none → p ∉ cs := fun n z => hc _ z n
      have hT1 := thg_put (cs := cs) (upd_same (a := T1) (o := .tup [V.str "laded", .str t, .ref l1])) (h1.same u1) (off (S3.free nl1))
      rw [t1.canon] at hT1
      refine ⟨?_, (ThgL.one ((hT1.same u2).same u3)).lst (u3 _ _ upd_same) (off (fr u1 nl3))⟩
      have := (h2.same u13).thg (off (S3.free nl2))
      rw [t2.canon] at this
      exact this
    | pack => cases hd
    | sell => cases hd
    | back => cases hd
    | tell => cases hd
end
structure KEnds (K : PySem.W.Frag) (w : World) (dE : Addr) : Prop where
  sell : KDct K w dE "sell" (.str "sold")
  back : KDct K w dE "back" (.str "back")
abbrev sDoEnd : Stmt := topS 22
theorem scDoEnd : FnScope ["store", "number", "deed", "word", "holder", "first", "last", "carried", "short"] ["store", "number", "deed"] (defScope sDoEnd) := ⟨rfl, rfl, rfl, by decide +kernel, rfl, by decide +kernel, by decide +kernel⟩
section
variable {K : PySem.W.Frag} {mg : Str → Option Value} {P : Program} {w : World} {base : Heap} {dE : Addr} (kE : KEnds K w dE)
include kE
theorem ok_DoEnd {f : Addr} {fd : FuncData} (F : Fun K "do_end" "do_end" sDoEnd f fd) (C_carry : Cal P w K mg base 5 "carry" ["store", "holder", "goal", "asked"] (spCarry K)) (c_ENDS : ∃ u, mg "ENDS" = some u ∧ RelV (.ref dE) u) : FnOk P w K mg base CX0 6 f fd ["store", "number", "deed"] (spDo isEnd) := by
  refine F.ok scDoEnd (fun vs H Q E h => ?_) (fun cdv A outer s H vs Q E hr h => ?_)
  · obtain ⟨s, D, num, d, E, SP, cs, W, rfl, _⟩ := h
    rfl
  · obtain ⟨s, D, num, d, E, SP, cs, W, rfl, hd, eD, hf, hS, hW, q⟩ := h
    refine ⟨_, pss_cons (ps_set (i := 3) scDoEnd.nd rfl (.inl rfl) (pe_ix ix_kdict (C8.pe_gc (by rfl) c_ENDS) (pe_ix ix_tup (pv 2) pe_int (fun _ _ => rfl)) (fun _ _ => rfl)))
      (pss_cons (ps_par3 rfl scDoEnd.nd (i := 4) (j := 5) (l := 6) rfl rfl rfl (by decide) (by decide) (by decide) rfl rfl rfl (pa_cons (pe_ix ix_tup (pv 2) pe_int (fun _ _ => rfl)) (pa_cons (pe_ix ix_tup (pv 2) pe_int (fun _ _ => rfl)) (pa_cons (pe_ix ix_tup (pv 2) pe_int (fun _ _ => rfl)) pa_nil))) (by rfl))
      (pss_cons (ps_asg (pe_own C_carry hr (by rfl) (pa_cons (pv 0) (pa_cons (pv 4) (pa_cons (pe_tup (pa_cons (pv 3) pa_nil)) (pa_cons (pe_lst (pa_cons (pe_tup (pa_cons (pv 5) (pa_cons (pv 6) pa_nil))) pa_nil)) pa_nil))))) (pg_tup rfl (pgs_cons (pg_name (i := 7) scDoEnd.nd rfl (.inl rfl)) (pgs_cons (pg_name (i := 8) scDoEnd.nd rfl (.inl rfl)) pgs_nil))))
      (pss_one (ps_ret (pe_tup (pa_cons (pv 8) (pa_cons (pe_lst (pa_cons (pe_tup (pa_cons (pv 3) (pa_cons (pv 4) (pa_cons (pv 7) pa_nil)))) pa_nil)) pa_nil))))))), ?_⟩
    cases d with
    | sell h n a b =>
      obtain ⟨ab, ea, eb, ho, ht⟩ := hf
      have eD : H D = some (.tup [.str "sell", .str h, .str n, .int a, .int b]) := eD
      refine ⟨_, rfl, D, _, 0, _, rfl, rfl, .inl (.inl eD), atI_nat (j := 0) rfl, dE, "sell", .str "sold", rfl, rfl, kE.sell, ?_⟩
      refine ⟨_, rfl, D, _, 1, _, rfl, rfl, .inl (.inl eD), atI_nat (j := 1) rfl, _, rfl, D, _, 3, _, rfl, rfl, .inl (.inl eD), atI_nat (j := 3) rfl, _, rfl, D, _, 4, _, rfl, rfl, .inl (.inl eD), atI_nat (j := 4) rfl, _, _, _, rfl, ?_⟩
      refine ⟨_, rfl, _, rfl, _, rfl, (by show 1 ≤ sizeLine; decide), fun g ng => ⟨_, rfl, _, rfl, (by show 2 ≤ sizeLine; decide), fun p np => ⟨(by show 1 ≤ sizeLine; decide), fun l nl => ?_⟩⟩⟩
      have sg := same_upd (o := .tup [V.str "sold"]) ng
      have sp := same_upd (o := .tup [V.int a, .int b]) np
      have sl := same_upd (o := .lst [V.ref p]) nl
      have S3 := (sg.trans sp).trans sl
      have eg := sl _ _ (sp _ _ (upd_same (a := g) (o := .tup [V.str "sold"])))
      have el : LsA (upd (upd (upd H g (.tup [V.str "sold"])) p (.tup [.int a, .int b])) l (.lst [.ref p])) l [(a, b)] := ⟨_, upd_same, prs_one (sl _ _ upd_same)⟩
      revert S3 eg el
      generalize upd (upd (upd H g (.tup [V.str "sold"])) p (.tup [.int a, .int b])) l (.lst [.ref p]) = H3
      intro S3 eg el
      have hch : ChP E (InS [(a, b)]) := (askS_ch ea eb).cong fun n => askS_in.symm
      refine ⟨s, g, l, h, E, SP, cs, W, .sold, [(a, b)], rfl, hS.same S3, ho, ht, eg, el.prh, ⟨a, Int.le_refl _, ab, True.intro⟩, hch, fun T l1 l2 rs1 rs2 H4 nT nl1 nl2 eT h1 t1 h2 t2 b4 hS4 => ?_⟩
      refine ⟨T, _, rfl, .inl (.inl eT), rfl, _, _, rfl, _, _, rfl, rfl, ?_⟩
      refine ⟨_, rfl, _, rfl, _, rfl, _, rfl, (by show 3 ≤ sizeLine; decide), fun T1 nT1 => ⟨(by show 1 ≤ sizeLine; decide), fun l3 nl3 => ⟨(by show 2 ≤ sizeLine; decide), fun T2 nT2 => ?_⟩⟩⟩
      have u1 := same_upd (o := .tup [V.str "sold", .str h, .ref l1]) nT1
      have u2 := same_upd (o := .lst [V.ref T1]) nl3
      have u3 := same_upd (o := .tup [V.ref l2, .ref l3]) nT2
      have u13 := (u1.trans u2).trans u3
      have bt := ((ButS.same S3).trans b4).trans (ButS.same u13)
      have hS' := hS4.same u13
      have eP : InS [(a, b)] = AskS a b := funext fun n => propext askS_in
      rw [eP] at t1 t2 hS'
      have fr : ∀ {Hm : Hp}, Same H4 Hm → ∀ {p : Addr}, Hm p = none → H p = none := fun k _ n => (hS4.same k).free (((ButS.same S3).trans b4).trans (ButS.same k)) n
      refine q T2 (.ref l2) (.ref l3) _ (fr (u1.trans u2) nT2) upd_same (fun cs hc => ?_) bt hS'
      have off : ∀ {p : Addr}, H p = none → p ∉ cs := fun n z => hc _ z n
      have hT1 := thg_put (cs := cs) (upd_same (a := T1) (o := .tup [V.str "sold", .str h, .ref l1])) (h1.same u1) (off (S3.free nl1))
      rw [t1.canon] at hT1
      refine ⟨?_, (ThgL.one ((hT1.same u2).same u3)).lst (u3 _ _ upd_same) (off (fr u1 nl3))⟩
      have := (h2.same u13).thg (off (S3.free nl2))
      rw [t2.canon] at this
      exact this
    | back h n a b =>
      obtain ⟨ab, ea, eb, ho, ht⟩ := hf
      have eD : H D = some (.tup [.str "back", .str h, .str n, .int a, .int b]) := eD
      refine ⟨_, rfl, D, _, 0, _, rfl, rfl, .inl (.inl eD), atI_nat (j := 0) rfl, dE, "back", .str "back", rfl, rfl, kE.back, ?_⟩
      refine ⟨_, rfl, D, _, 1, _, rfl, rfl, .inl (.inl eD), atI_nat (j := 1) rfl, _, rfl, D, _, 3, _, rfl, rfl, .inl (.inl eD), atI_nat (j := 3) rfl, _, rfl, D, _, 4, _, rfl, rfl, .inl (.inl eD), atI_nat (j := 4) rfl, _, _, _, rfl, ?_⟩
      refine ⟨_, rfl, _, rfl, _, rfl, (by show 1 ≤ sizeLine; decide), fun g ng => ⟨_, rfl, _, rfl, (by show 2 ≤ sizeLine; decide), fun p np => ⟨(by show 1 ≤ sizeLine; decide), fun l nl => ?_⟩⟩⟩
      have sg := same_upd (o := .tup [V.str "back"]) ng
      have sp := same_upd (o := .tup [V.int a, .int b]) np
      have sl := same_upd (o := .lst [V.ref p]) nl
      have S3 := (sg.trans sp).trans sl
      have eg := sl _ _ (sp _ _ (upd_same (a := g) (o := .tup [V.str "back"])))
      have el : LsA (upd (upd (upd H g (.tup [V.str "back"])) p (.tup [.int a, .int b])) l (.lst [.ref p])) l [(a, b)] := ⟨_, upd_same, prs_one (sl _ _ upd_same)⟩
      revert S3 eg el
      generalize upd (upd (upd H g (.tup [V.str "back"])) p (.tup [.int a, .int b])) l (.lst [.ref p]) = H3
      intro S3 eg el
      have hch : ChP E (InS [(a, b)]) := (askS_ch ea eb).cong fun n => askS_in.symm
      refine ⟨s, g, l, h, E, SP, cs, W, .back, [(a, b)], rfl, hS.same S3, ho, ht, eg, el.prh, ⟨a, Int.le_refl _, ab, True.intro⟩, hch, fun T l1 l2 rs1 rs2 H4 nT nl1 nl2 eT h1 t1 h2 t2 b4 hS4 => ?_⟩
      refine ⟨T, _, rfl, .inl (.inl eT), rfl, _, _, rfl, _, _, rfl, rfl, ?_⟩
      refine ⟨_, rfl, _, rfl, _, rfl, _, rfl, (by show 3 ≤ sizeLine; decide), fun T1 nT1 => ⟨(by show 1 ≤ sizeLine; decide), fun l3 nl3 => ⟨(by show 2 ≤ sizeLine; decide), fun T2 nT2 => ?_⟩⟩⟩
      have u1 := same_upd (o := .tup [V.str "back", .str h, .ref l1]) nT1
      have u2 := same_upd (o := .lst [V.ref T1]) nl3
      have u3 := same_upd (o := .tup [V.ref l2, .ref l3]) nT2
      have u13 := (u1.trans u2).trans u3
      have bt := ((ButS.same S3).trans b4).trans (ButS.same u13)
      have hS' := hS4.same u13
      have eP : InS [(a, b)] = AskS a b := funext fun n => propext askS_in
      rw [eP] at t1 t2 hS'
      have fr : ∀ {Hm : Hp}, Same H4 Hm → ∀ {p : Addr}, Hm p = none → H p = none := fun k _ n => (hS4.same k).free (((ButS.same S3).trans b4).trans (ButS.same k)) n
      refine q T2 (.ref l2) (.ref l3) _ (fr (u1.trans u2) nT2) upd_same (fun cs hc => ?_) bt hS'
      have off : ∀ {p : Addr}, H p = none → p ∉ cs := fun n z => hc _ z n
      have hT1 := thg_put (cs := cs) (upd_same (a := T1) (o := .tup [V.str "back", .str h, .ref l1])) (h1.same u1) (off (S3.free nl1))
      rw [t1.canon] at hT1
      refine ⟨?_, (ThgL.one ((hT1.same u2).same u3)).lst (u3 _ _ upd_same) (off (fr u1 nl3))⟩
      have := (h2.same u13).thg (off (S3.free nl2))
      rw [t2.canon] at this
      exact this
    | pack => cases hd
    | lade => cases hd
    | tell => cases hd
end

open LamX
/-! ### sorted(xs, key=lambda a: ..) -/
/-- the names of such a lambda: its parameter, captured ones, the module's -/
structure LamP (sc scope : Scope) (a : Str) : Prop where
  kind : scope.kind = .function
  co : scope.isCoroutine = false
  gen : scope.isGenerator = false
  par : scope.names.lookup a = some .local
  own : ∀ y ∈ scope.names, y.2 ≠ .cell
  free : ∀ y ∈ scope.names, y.2 = .free → sc.names.lookup y.1 = some .cell ∨ sc.names.lookup y.1 = some .free
def lamPB (sc scope : Scope) (a : Str) : Bool :=
  decide (scope.kind = .function) && !scope.isCoroutine && !scope.isGenerator && decide (scope.names.lookup a = some .local) && scope.names.all fun y => !decide (y.2 = .cell) && (!decide (y.2 = .free) || decide (sc.names.lookup y.1 = some .cell) || decide (sc.names.lookup y.1 = some .free))
theorem lamP_by {sc scope : Scope} {a : Str} (h : lamPB sc scope a = true) : LamP sc scope a := by
  unfold lamPB at h
  simp only [Bool.and_eq_true, Bool.or_eq_true, Bool.not_eq_true', decide_eq_true_eq, decide_eq_false_iff_not, List.all_eq_true] at h
  obtain ⟨⟨⟨⟨h1, h2⟩, h3⟩, h4⟩, h5⟩ := h
  refine ⟨h1, h2, h3, h4, fun y hy => (h5 y hy).1, fun y hy e => ?_⟩
  rcases (h5 y hy).2 with (z | z) | z
  · exact absurd e z
  · exact .inl z
  · exact .inr z
/-- the table of lambdas at P stands, all else is kept -/
def TbL (P : Addr) (q : Str) (H H2 : Hp) : Prop := TabS H2 P q ∧ ∀ b o, H b = some o → (∀ ps, o ≠ .tbl ps) → H2 b = some o
/-- what the body must tell: run in the lambda's frame, it gives the key of what the parameter holds -/
def KeyBody (X : Cx) (scope : Scope) (a : Str) (body : Expr) (Kf : L2.St → Hp → V → PyData → Prop) : Prop :=
  ∀ (pins : List (Addr × Obj)) (σ : L2.St) (H : Hp) (s s1 : Shared) (A : Around) (L f c' : Addr) (v : Value) (x : V) (d : PyData), Inv X pins σ H s → (∀ b o, s.heap.get? b = some o → s1.heap.get? b = some o) → s1.heap.Ns L (fun y => [(a, v)].lookup y) →
    RelV x v → Kf σ H x d → wpAny (model X.prog X.w) A (eval body (lamEnv X scope L f c')) (PySem.W.KeyPure d s1) (fun _ _ => False) s1
def tSortL (K : PySem.W.Frag) (P : Addr) (q : Str) (Kf : L2.St → Hp → V → PyData → Prop) (t : TA) : TE := fun σ H Q => t σ H fun vs H1 => TabS H1 P q ∧ ∃ (a : Addr) (xs : List V) (k : V → PyData), vs = [.ref a] ∧ SqL K H1 a xs ∧
  PySem.W.AllAlike (xs.map k) ∧ PySem.W.Sortable (xs.map k) ∧ (∀ x ∈ xs, (k x).depth ≤ 8) ∧ (∀ x ∈ xs, ∀ H2, TbL P q H1 H2 → Kf σ H2 x (k x)) ∧ ∀ H2 p, TbL P q H1 H2 → H2 p = none → Q (.ref p) (upd H2 p (.lst (xs.mergeSort (PySem.W.dataLe false k))))
theorem each_vals : ∀ {xs : List V} {us : List Value}, Vals xs us → PySem.W.EachIs (fun v x => RelV x v) us xs
  | _, _, .nil => .nil
  | _, _, .cons r t => .cons r (each_vals t)
theorem vals_each : ∀ {xs : List V} {us : List Value}, PySem.W.EachIs (fun v x => RelV x v) us xs → Vals xs us
  | _, _, .nil => .nil
  | _, _, .cons r t => .cons r (vals_each t)
section
variable {X : Cx} {c P : Addr} {e : Expr} {t : TA} {params : Arguments} {body : Expr} {scope : Scope} {a : Str} {lpos kpos p pos : Pos} {Kf : L2.St → Hp → V → PyData → Prop}
theorem pe_sortedL (TB : LamX.TabB X.base X.mg c P) (hcode : X.env.code = .ref c) (hg : Gl X "sorted") (hm : X.mg "sorted" = none) (hr : Room 3 X.A) (ha : PA X [e] t) (hdef : defaultsOf params X.env = ([], [])) (LP : LamP X.env.scope scope a)
    (hbind : ∀ (v pm ctv : Value) (c' : Addr), bindArgs (PySem.W.kla_fn "<lambda>" (X.env.qual ++ "<lambda>") params body scope (cloFrom X.env.cells scope.names []) pm (.ref c') ctv) ⟨[v], []⟩ = pure [(a, v)])
    (hkey : KeyBody X scope a body Kf) (h1 : backTo pos (starEach [e] X.env) = (false, eval e X.env) :: backTo pos (starEach [] X.env) := by rfl) (h2 : (backTo pos (starEach [e] X.env)).any (·.1) = false := by rfl) :
    PE X (.Call (.Name "sorted" p) [e] [⟨some "key", .Lambda params body scope lpos, kpos⟩] pos) (tSortL X.K P (X.env.qual ++ "<lambda>") Kf t) := by
  refine ⟨fun pins s σ H Q I h => ?_⟩
  refine wpAny_Call_Name_kw (ld_blt I hg hm (show bootBuiltins "sorted" = some (.builtin "sorted") by decide +kernel) ?_ (by decide) (by decide))
  refine PyProof.Rows.callWith_kw (thn (ha.run pos pins s σ H _ I h) fun us s1 ⟨vs, H1, I1, r1, hT, aL, xs, k, ev, hS, hal, hso, hdp, hkf, q1⟩ => ?_) h1 h2 rfl rfl
  subst ev
  obtain rfl := Vals.ref1 r1
  show wpAny _ _ (evalAll [do let v ← eval (.Lambda params body scope lpos) X.env; standAt pos; pure v]) _ _ s1
  have hfree : ∀ y ∈ scope.names, y.2 = .free → ∃ c, X.env.cells.lookup y.1 = some c := fun y hy e => by
    rcases LP.free y hy e with z | z
    · exact I.ok.has _ (.inl z)
    · exact I.ok.has _ (.inr z)
  refine wpAny_evalAll_cons (wpAny_bind (lam_make2 (T := [(P, X.env.qual ++ "<lambda>")]) I1 TB hcode (List.mem_cons_self ..) (fun p hp _ => by rw [List.mem_singleton.mp hp]) (fun p hp => by rw [List.mem_singleton.mp hp]; exact hT) hdef hfree
    fun f c' pm ctv H2 s2 I2 x2 T2 hf nf ff hc => wpAny_bind (wpAny_standAt (wpAny_pure (wpAny_evalAll_nil ?_)))))
  have tb2 : TbL P (X.env.qual ++ "<lambda>") H1 H2 := ⟨T2 _ (List.mem_cons_self ..), x2⟩
  have hS2 : SqL X.K H2 aL xs := by
    rcases hS with z | z
    · rcases z with z | ⟨o, z⟩
      · exact .inl (.inl (x2 _ _ z (fun _ w => nomatch w)))
      · exact .inl (.inr ⟨o, x2 _ _ z (fun _ w => nomatch w)⟩)
    · exact .inr z
  obtain ⟨its, rv, pl, hz⟩ := I2.list hS2
  show wpAny _ _ (call (.builtin "sorted") [.ref aL] [(Str.ofString "key", .ref f)]) _ _ s2
  have hun := hr.un
  refine PySem.W.sorted_key_data (R := fun v x => RelV x v) (bs := xs) (vs := its) (b := false) k pl.isList (each_vals rv) hal hso hz (fun x hx => by have := hdp x hx; omega) (PyProof.Rows.ksk_s1 _ _) (fun _ => PyProof.Rows.ksk_l1 _ _) (fun x => PyProof.Rows.ksk_t1 f x) (fun v x hR hx h tk kp => ?_) (fun out c h' tk kp n0 ho hl eo => ?_)
  · have I3 : Inv X pins σ H2 { s2 with heap := h, toks := tk } := I2.kept kp
    have hf3 := kp _ _ hf
    obtain ⟨⟨oc, vs', t', hoc, hdc, hvc⟩, _, _⟩ := I2.hok c' _ hc
    have hr2 : Room 1 X.A.in1.in1 := hr.in1.in1
    refine wpAny_call (codeAny_mono (R := fun r s' => ∃ u, r = .ok (.ret u) ∧ PySem.W.KeyPure (k x) { s2 with heap := h, toks := tk } u s') ?_ fun r s' hq => ?_)
    · refine PySem.W.kla_callFunE (by have := hr2.dp; omega) hf3 rfl LP.co LP.gen rfl ⟨c', oc, vs', t', rfl, kp _ _ hoc, hdc, hvc⟩ ?_
      rw [hbind]
      refine wpAny_pure (wpAny_newFunctionEnv (fun y hy => LP.own y hy) (fun y hy => by rw [List.mem_singleton.mp hy]; exact LP.par) (fun h₁ hns hsb => ⟨I3.nolimit.fresh _ hsb, ?_⟩) LP.kind)
      have kp1 : ∀ b o, h.get? b = some o → h₁.get? b = some o := fun b o e => hsb.extBut b o (Nat.ne_of_lt (Heap.lt_size e)) (Heap.get?_push_of_some _ e)
      show codeAny _ _ (.expr body (lamEnv X scope h.objs.size f c')) _ _
      refine PySem.W.kla_codeExpr (wpAny_mono (hkey pins σ H2 { s2 with heap := h, toks := tk } { s2 with heap := h₁, toks := tk + 1 } _ h.objs.size f c' v x (k x) I3 kp1 hns hR (hkf x hx H2 tb2)) (fun u s' hq => ?_) fun _ _ z => z.elim)
      obtain ⟨h5, tk5, rfl, k5, rd⟩ := hq
      exact ⟨u, rfl, h5, tk5, rfl, fun b o e => k5 b o (kp1 b o e), rd⟩
    · obtain ⟨u, rfl, hk⟩ := hq
      exact hk
  · have hlen : (xs.mergeSort (PySem.W.dataLe false k)).length ≤ sizeLine := by rw [List.length_mergeSort]; exact hz
    have np : H2 (s2.heap.objs.size + 1) = none := I2.hok.fresh (Nat.le_succ _)
    exact ⟨.ref _, upd H2 (s2.heap.objs.size + 1) (.lst (xs.mergeSort (PySem.W.dataLe false k))), I2.laid (t' := tk) kp (Nat.le_succ _) ⟨hlen, _, c, vals_each eo, ho⟩, rfl, q1 H2 _ tb2 np⟩
end

/-- an expression that changes nothing but the count of tokens -/
def Gv (prog : Program) (w : World) (A : Around) (env : Env) (e : Expr) (s : Shared) (R : Value → Prop) : Prop := ∀ (tk0 : Nat) (Q : Value → Shared → Prop) (E : Value → Shared → Prop), (∀ u tk, R u → Q u { s with toks := tk }) → wpAny (model prog w) A (eval e env) Q E { s with toks := tk0 }
section
variable {prog : Program} {w : World} {A : Around} {env : Env} {s : Shared} {e b : Expr} {pos : Pos}
theorem gv_int {i : Int} {j : Nat} : Gv prog w A env (.Constant (.int i) j pos) s (fun u => ∃ t, u = .int i t) := fun _ _ _ h => wpAny_Constant_int (h _ _ ⟨_, rfl⟩)
theorem gv_neg {i : Int} (ha : Gv prog w A env e s (fun u => ∃ t, u = .int i t)) : Gv prog w A env (.UnaryOp .USub e pos) s (fun u => ∃ t, u = .int (-i) t) := fun tk0 Q E h =>
  PyProof.Rows.UnaryOp_ (ha tk0 _ _ fun u tk ⟨t, e⟩ => by rw [e]; exact neg_int (h _ _ ⟨_, rfl⟩))
theorem gv_loc {x : Str} {m : Str → Option Value} {v : Value} (hk : env.scope.kind = .function) (hl : env.kindOf x = some .local) (hn : s.heap.Ns env.locals m) (hv : m x = some v) (hd : (x == ("__debug__" : Str)) = false := by decide) : Gv prog w A env (.Name x pos) s (fun u => u = v) := fun tk0 Q E h =>
  wpAny_Name (wpAny_loadName_local (s := { s with toks := tk0 }) hk hl hn hv (h v tk0 rfl)) hd
theorem gv_free {x : Str} {c : Addr} {v : Value} (hk : env.scope.kind = .function) (hl : env.kindOf x = some .free) (hc : env.cells.lookup x = some c) (hv : s.heap.IsCell c (some v)) (hd : (x == ("__debug__" : Str)) = false := by decide) (hcd : (x == ("__classdict__" : Str)) = false := by decide) : Gv prog w A env (.Name x pos) s (fun u => u = v) := fun tk0 Q E h =>
  wpAny_Name (wpAny_loadName_free (s := { s with toks := tk0 }) hk hl hc hv (h v tk0 rfl) hcd) hd
theorem gv_ixT {t : Addr} {its : List Value} {i : Int} {v : Value} (ha : Gv prog w A env e s (fun u => u = .ref t)) (hb : Gv prog w A env b s (fun u => ∃ t, u = .int i t)) (pl : IsTup s.heap t its.toArray) (hz : its.length ≤ sizeLine) (hv : atI its i = some v) (hs : PlainIx b) : Gv prog w A env (.Subscript e b pos) s (fun u => u = v) := fun tk0 Q E h => by
  refine PyProof.Rows.Subscript_ (ha tk0 _ _ fun u tk eu => hb tk _ _ fun u2 tk2 ⟨t2, e2⟩ => ?_)
  subst eu
  subst e2
  obtain ⟨j, h1, h2, h3, h4, h5⟩ := atI_get hv
  have hn := line63
  exact subscriptTail_builtinR (x := v) pl.typeIs slot_tuple_getitem.lookup (getItem_tuple (s := { s with toks := tk2 }) (j := j) (Q := fun r s' => r = v ∧ Q r s') pl (by omega) (by omega) (by rw [List.size_toArray]; exact h1) (by simpa using h2) ⟨rfl, h v tk2 rfl⟩) (hs _ _)
theorem gv_ixL {t : Addr} {its : List Value} {i : Int} {v : Value} (ha : Gv prog w A env e s (fun u => u = .ref t)) (hb : Gv prog w A env b s (fun u => ∃ t, u = .int i t)) (pl : PlainL s.heap t its.toArray) (hz : its.length ≤ sizeLine) (hv : atI its i = some v) (hs : PlainIx b) : Gv prog w A env (.Subscript e b pos) s (fun u => u = v) := fun tk0 Q E h => by
  refine PyProof.Rows.Subscript_ (ha tk0 _ _ fun u tk eu => hb tk _ _ fun u2 tk2 ⟨t2, e2⟩ => ?_)
  subst eu
  subst e2
  obtain ⟨j, h1, h2, h3, h4, h5⟩ := atI_get hv
  have hn := line63
  by_cases h0 : 0 ≤ i
  · have hj : i.toNat = j := by
      rw [seqIndex_of h0 h5] at h1
      exact Option.some.inj h1
    exact item_listR (s := { s with toks := tk2 }) pl.isList h0 (by omega) (by rw [hj]; simpa using h2) (h v tk2 rfl) (hs _ _)
  · have hj : (i + (its.toArray.size : Int)).toNat = j := by
      rw [seqIndex_neg (by omega) h4] at h1
      rw [List.size_toArray]
      exact Option.some.inj h1
    exact subscriptTail_builtinR (x := v) pl.isList.typeIs slot_list_getitem.lookup
      (wpAny_getItem_list_neg (s := { s with toks := tk2 }) (Q := fun r s' => r = v ∧ Q r s') pl.isList (by omega) (by rw [List.size_toArray] <;> omega) (by omega) (by rw [hj]; simpa using h2) ⟨rfl, h v tk2 rfl⟩) (hs _ _)
end
/-! ### the keys -/
theorem vals_at {xs : List V} {us : List Value} (r : Vals xs us) {i : Int} {x : V} (h : atI xs i = some x) : ∃ u, atI us i = some u ∧ RelV x u := by
  unfold atI at h ⊢
  rw [← r.length]
  cases e : ixN xs.length i with
  | none => rw [e] at h; cases h
  | some j =>
    rw [e] at h
    exact r.get h
section
variable {X : Cx} {scope : Scope} {a : Str} {p1 p2 p3 p4 p5 p6 p7 p8 p9 : Pos} {j1 j2 j3 : Nat}
/-- lambda a: (a[0], a[1]) -/
def KfPair (K : PySem.W.Frag) : L2.St → Hp → V → PyData → Prop := fun _ H x d => ∃ (t : Addr) (xs : List V) (i j : Int), x = .ref t ∧ SqT K H t xs ∧ atI xs 0 = some (.int i) ∧ atI xs 1 = some (.int j) ∧ d = .tuple [.int i, .int j]
theorem key_pair {x1 : Nat} (LP : LamP X.env.scope scope a) (hd : (a == ("__debug__" : Str)) = false) : KeyBody X scope a (.Tuple [.Subscript (.Name a p1) (.Constant (.int 0) j1 p2) p3, .Subscript (.Name a p4) (.Constant (.int 1) j2 p5) p6] x1 p7) (KfPair X.K) := by
  intro pins σ H s s1 A L f c' v x d I kp hn r h
  obtain ⟨t, xs, i, j, rfl, hS, e0, e1, rfl⟩ := h
  have I1 : Inv X pins σ H { s with heap := s1.heap, toks := s.toks } := I.kept kp
  obtain ⟨its, rv, pl, hz⟩ := I1.tuple hS
  obtain ⟨u0, a0, t0, rfl⟩ := vals_at rv e0
  obtain ⟨u1, a1, t1, rfl⟩ := vals_at rv e1
  cases r
  have hz' : its.length ≤ sizeLine := by rw [← rv.length]; exact hz
  have nm : ∀ p, Gv X.prog X.w A (lamEnv X scope L f c') (.Name a p) s1 (fun u => u = .ref t) := fun p => gv_loc LP.kind LP.par hn (by simp) hd
  refine wpAny_Tuple_spliced ?_
  show wpAny _ _ (spliced [(false, eval (.Subscript (.Name a p1) (.Constant (.int 0) j1 p2) p3) (lamEnv X scope L f c')), (false, eval (.Subscript (.Name a p4) (.Constant (.int 1) j2 p5) p6) (lamEnv X scope L f c'))]) _ _ s1
  refine Calls.spliced_cons (gv_ixT (nm p1) gv_int pl hz' a0 (fun _ _ => rfl) s1.toks _ _ fun u tk eu => Calls.spliced_cons (gv_ixT (nm p4) gv_int pl hz' a1 (fun _ _ => rfl) tk _ _ fun u2 tk2 eu2 => Calls.spliced_nil ⟨(by show 2 ≤ sizeLine; decide), ?_⟩))
  subst eu
  subst eu2
  exact ⟨_, tk2, rfl, fun b o e => Heap.get?_push_of_some _ e, .tuple (Heap.get?_push_size _ rfl) rfl rfl (.cons (.int _ _) (.cons (.int _ _) .nil))⟩
/-- what is captured at slot i, as the lambda reads it -/
theorem cap_at {i : Nat} {y : Str} {v : V} {pins : List (Addr × Obj)} {σ : L2.St} {H : Hp} {s : Shared} (I : Inv X pins σ H s) (LP : LamP X.env.scope scope a) (hN : X.N[i]? = some y) (hc : X.env.scope.names.lookup y = some .cell) (hy : scope.names.lookup y = some .free) (hv : σ[i]? = some (some v)) :
    ∃ c u, (cloFrom X.env.cells scope.names []).lookup y = some c ∧ s.heap.IsCell c (some u) ∧ RelV v u := by
  obtain ⟨m, hn, look⟩ := I.loc
  obtain ⟨u, r, l⟩ := look i y v hN hv (.inr (.inl hc))
  rcases l with ⟨z, _⟩ | ⟨_, c, e, hcell⟩
  · rw [show X.env.kindOf y = some .cell from hc] at z
    cases z
  · obtain ⟨c2, h2⟩ := mem_lookup (cloFrom_has (cells := X.env.cells) (acc := []) (PySem.mem_of_lookup hy))
    refine ⟨c2, u, h2, ?_, r⟩
    rcases cloFrom_mem (PySem.mem_of_lookup h2) with hm | ⟨_, w⟩
    · cases hm
    · have w2 : c2 = c := by rw [w, e]; rfl
      rw [w2]
      exact hcell
/-- lambda a: y[a][1], y captured: a list of tuples -/
def KfAt1 (K : PySem.W.Frag) (i : Nat) : L2.St → Hp → V → PyData → Prop := fun σ H x d => ∃ (l t : Addr) (ls ts : List V) (n k : Int), σ[i]? = some (some (.ref l)) ∧ x = .int n ∧ SqL K H l ls ∧ atI ls n = some (.ref t) ∧ SqT K H t ts ∧ atI ts 1 = some (.int k) ∧ d = .int k
theorem key_at1 {i : Nat} {y : Str} (LP : LamP X.env.scope scope a) (hN : X.N[i]? = some y) (hc : X.env.scope.names.lookup y = some .cell) (hy : scope.names.lookup y = some .free) (hd : (a == ("__debug__" : Str)) = false) (hd2 : (y == ("__debug__" : Str)) = false) (hcd : (y == ("__classdict__" : Str)) = false) :
    KeyBody X scope a (.Subscript (.Subscript (.Name y p1) (.Name a p2) p3) (.Constant (.int 1) j1 p4) p5) (KfAt1 X.K i) := by
  intro pins σ H s s1 A L f c' v x d I kp hn r h
  obtain ⟨l, t, ls, ts, n, k, hv, rfl, hS, e0, hT, e1, rfl⟩ := h
  obtain ⟨tn, rfl⟩ := r
  have I1 : Inv X pins σ H { s with heap := s1.heap, toks := s.toks } := I.kept kp
  obtain ⟨c, u, g1, g2, g3⟩ := cap_at I1 LP hN hc hy hv
  cases g3
  obtain ⟨its, rv, pl, hz⟩ := I1.list hS
  obtain ⟨jts, rw', pt, hz2⟩ := I1.tuple hT
  obtain ⟨u0, a0, w0⟩ := vals_at rv e0
  cases w0
  obtain ⟨u1, a1, t1, rfl⟩ := vals_at rw' e1
  have ny : ∀ p, Gv X.prog X.w A (lamEnv X scope L f c') (.Name y p) s1 (fun u => u = .ref l) := fun p => gv_free LP.kind hy g1 g2 hd2 hcd
  have na : ∀ p, Gv X.prog X.w A (lamEnv X scope L f c') (.Name a p) s1 (fun u => ∃ t, u = .int n t) := fun p tk0 Q E h => (gv_loc (pos := p) LP.kind LP.par hn (by simp) hd : Gv X.prog X.w A (lamEnv X scope L f c') (.Name a p) s1 (fun u => u = .int n tn)) tk0 Q E fun u tk eu => h u tk ⟨tn, eu⟩
  refine gv_ixT (gv_ixL (ny p1) (na p2) pl (by rw [← rv.length]; exact hz) a0 (fun _ _ => rfl)) gv_int pt (by rw [← rw'.length]; exact hz2) a1 (fun _ _ => rfl) s1.toks _ _ fun u tk eu => ?_
  subst eu
  exact ⟨s1.heap, tk, rfl, fun _ _ e => e, .int _ _⟩
/-- lambda a: y[a][-1][1], y captured: a list of lists of tuples -/
def KfLast1 (K : PySem.W.Frag) (i : Nat) : L2.St → Hp → V → PyData → Prop := fun σ H x d => ∃ (l m t : Addr) (ls ms ts : List V) (n k : Int), σ[i]? = some (some (.ref l)) ∧ x = .int n ∧ SqL K H l ls ∧ atI ls n = some (.ref m) ∧ SqL K H m ms ∧ atI ms (-1) = some (.ref t) ∧ SqT K H t ts ∧ atI ts 1 = some (.int k) ∧ d = .int k
theorem key_last1 {i : Nat} {y : Str} (LP : LamP X.env.scope scope a) (hN : X.N[i]? = some y) (hc : X.env.scope.names.lookup y = some .cell) (hy : scope.names.lookup y = some .free) (hd : (a == ("__debug__" : Str)) = false) (hd2 : (y == ("__debug__" : Str)) = false) (hcd : (y == ("__classdict__" : Str)) = false) :
    KeyBody X scope a (.Subscript (.Subscript (.Subscript (.Name y p1) (.Name a p2) p3) (.UnaryOp .USub (.Constant (.int 1) j2 p6) p7) p8) (.Constant (.int 1) j1 p4) p5) (KfLast1 X.K i) := by
  intro pins σ H s s1 A L f c' v x d I kp hn r h
  obtain ⟨l, m, t, ls, ms, ts, n, k, hv, rfl, hS, e0, hM, em, hT, e1, rfl⟩ := h
  obtain ⟨tn, rfl⟩ := r
  have I1 : Inv X pins σ H { s with heap := s1.heap, toks := s.toks } := I.kept kp
  obtain ⟨c, u, g1, g2, g3⟩ := cap_at I1 LP hN hc hy hv
  cases g3
  obtain ⟨its, rv, pl, hz⟩ := I1.list hS
  obtain ⟨kts, rk, pk, hz3⟩ := I1.list hM
  obtain ⟨jts, rw', pt, hz2⟩ := I1.tuple hT
  obtain ⟨u0, a0, w0⟩ := vals_at rv e0
  cases w0
  obtain ⟨u2, a2, w2⟩ := vals_at rk em
  cases w2
  obtain ⟨u1, a1, t1, rfl⟩ := vals_at rw' e1
  have ny : ∀ p, Gv X.prog X.w A (lamEnv X scope L f c') (.Name y p) s1 (fun u => u = .ref l) := fun p => gv_free LP.kind hy g1 g2 hd2 hcd
  have na : ∀ p, Gv X.prog X.w A (lamEnv X scope L f c') (.Name a p) s1 (fun u => ∃ t, u = .int n t) := fun p tk0 Q E h => (gv_loc (pos := p) LP.kind LP.par hn (by simp) hd : Gv X.prog X.w A (lamEnv X scope L f c') (.Name a p) s1 (fun u => u = .int n tn)) tk0 Q E fun u tk eu => h u tk ⟨tn, eu⟩
  refine gv_ixT (gv_ixL (gv_ixL (ny p1) (na p2) pl (by rw [← rv.length]; exact hz) a0 (fun _ _ => rfl)) (gv_neg gv_int) pk (by rw [← rk.length]; exact hz3) a2 (fun _ _ => rfl)) gv_int pt (by rw [← rw'.length]; exact hz2) a1 (fun _ _ => rfl) s1.toks _ _ fun u tk eu => ?_
  subst eu
  exact ⟨s1.heap, tk, rfl, fun _ _ e => e, .int _ _⟩
end

open LamX
/-! ### sorted(range(n), key=lambda a: ..) -/
theorem cr_range1 {X : Cx} : CallR X (.type "range") (fun vs H Q => ∃ j, vs = [V.int j] ∧ ∀ p, H p = none → Q (.ref p) (upd H p (.rng 0 j))) := fun pins s σ H vs us Q I r h => by
  obtain ⟨j, rfl, q⟩ := h
  obtain ⟨u, rfl, t, rfl⟩ := vals1 r
  refine call_range_1 ⟨.ref s.heap.objs.size, upd H s.heap.objs.size (.rng 0 j), I.laid (t' := s.toks + 1 + 1) (fun b o e => Heap.get?_push_of_some _ e) (Nat.le_refl _) ?_, rfl, q _ (I.hok.fresh (Nat.le_refl _))⟩
  exact ⟨s.toks, t, s.toks + 1, Heap.get?_push_size _ rfl⟩
abbrev rngV (n : Nat) : List V := (List.range n).map fun i : Nat => V.int (i : Int)
theorem vals_of : ∀ {xs : List V} {us : List Value}, xs.length = us.length → (∀ (j : Nat) x u, xs[j]? = some x → us[j]? = some u → RelV x u) → Vals xs us
  | [], [], _, _ => .nil
  | [], _ :: _, h, _ => nomatch h
  | _ :: _, [], h, _ => nomatch h
  | x :: xs, u :: us, h, r => .cons (r 0 x u rfl rfl) (vals_of (Nat.succ.inj h) fun j y w e1 e2 => r (j + 1) y w e1 e2)
section
variable {prog : Program} {w : World} {A : Around} {E : Value → Shared → Prop} {s : Shared}
theorem sorted_key_range {r : Addr} {f : Addr} {n : Nat} {t u v : Tok} {Q : Value → Shared → Prop} (k : V → PyData) (hh : A.handled = none) (hr : IsRange s.heap r 0 (n : Int) 1 t u v) (hn : n ≤ 10000) (hal : PySem.W.AllAlike ((rngV n).map k)) (hk : PySem.W.Sortable ((rngV n).map k))
    (hu : ∀ x, x ∈ rngV n → A.units + 2 + (k x).depth < cLine)
    (turn : ∀ (v : Value) (x : V), RelV x v → x ∈ rngV n → ∀ (h : Heap) (tk : Nat), (∀ b o, s.heap.get? b = some o → h.get? b = some o) →
      wpAny (model prog w) A.in1.in1 (call (.ref f) [v]) (PySem.W.KeyPure (k x) { s with heap := h, toks := tk }) (fun _ _ => False) { s with heap := h, toks := tk })
    (h : ∀ p out c h' tk, s.heap.get? p = none → (∀ b o, s.heap.get? b = some o → h'.get? b = some o) → h'.get? p = some (seqObj "list" (List.toArray out) c) → Vals ((rngV n).mergeSort (PySem.W.dataLe false k)) out →
      Q (.ref p) { s with heap := h', toks := tk }) :
    wpAny (model prog w) A (call (.builtin "sorted") [.ref r] [(Str.ofString "key", .ref f)]) Q E s := by
  refine call_function_entry_kw kind_sorted plain_sorted entry_sorted (PyProof.Rows.ksk_s1 _ _) ?_
  unfold Builtin.«sorted»
  refine wpAny_bind (m := checkCount "sorted" 1 1 _) (wpAny_pure ?_)
  refine wpAny_bind (collect_range (n := n) (A := A.in1) hh hr ?_ ?_ (by omega) fun h1 tk1 acc k1 hi => ?_)
  · exact small_one (by decide) (by decide) (by omega) (by omega)
  · rw [rangeSize_one]
    split <;> omega
  · have hL : acc.toList.length ≤ sizeLine := by rw [Array.length_toList, hi.1]; exact Nat.le_trans hn (by decide)
    refine wpAny_bind (wpAny_newList ?_ hL)
    refine wpAny_bind (wpAny_holding (wpAny_call_entry_kw slot_list_sort ⟨_, Heap.get?_push_size _ rfl, rfl⟩ entry_list_sort ?body (PyProof.Rows.ksk_l1 _ _)))
    case body =>
      rw [PyProof.Rows.ksk_t1]
      have ev : PySem.W.EachIs (fun v x => RelV x v) acc.toList (rngV n) := by
        refine each_vals (vals_of (by rw [List.length_map, List.length_range, Array.length_toList, hi.1]) fun j x u e1 e2 => ?_)
        obtain ⟨t, rfl⟩ := hi.2 j u (by simpa using e2)
        rw [List.getElem?_map] at e1
        cases e3 : (List.range n)[j]? with
        | none => rw [e3] at e1; cases e1
        | some m =>
          rw [e3] at e1
          cases e1
          have : m = j := by
            have := List.getElem?_eq_some_iff.mp e3
            obtain ⟨hj, e⟩ := this
            rw [List.getElem_range] at e
            exact e.symm
          subst this
          exact ⟨t, by simp⟩
      have fr : ∀ b o, s.heap.get? b = some o → b ≠ h1.objs.size := fun b o e => Nat.ne_of_lt (Heap.lt_size (k1 b o e))
      refine PySem.W.keyH_tree (b := false) (vs := acc.toList) (kz := (rngV n).map k) (s := { s with heap := h1.push (seqObj "list" acc.toList.toArray 0), toks := tk1 }) (Heap.get?_push_size _ rfl) (by rw [List.length_map]; exact ev.length.symm) hL hal hk (fun d hd => by obtain ⟨x, hx, rfl⟩ := List.mem_map.mp hd; exact hu x hx)
        (PySem.W.keyH_turns (h₁ := h1.push (seqObj "list" acc.toList.toArray 0)) (s := { s with heap := h1.push (seqObj "list" acc.toList.toArray 0), toks := tk1 }) ev fun v x hR hx h' tk kp => turn v x hR hx h' tk fun b o e => kp b o (fr b o e) (Heap.get?_push_of_some _ (k1 b o e))) fun h' tk out c kp hD ko => ?_
      refine ⟨.none, rfl, wpAny_pure ⟨_, rfl, ?_⟩⟩
      have nn : s.heap.get? h1.objs.size = none := by
        cases e : s.heap.get? h1.objs.size with
        | none => rfl
        | some o => exact absurd rfl (fr _ _ e)
      exact h h1.objs.size out c h' tk nn (fun b o e => kp b o (fr b o e) (Heap.get?_push_of_some _ (k1 b o e))) hD (vals_each (PySem.W.keyedOut_each k ko ev))
end

def tSortLR (P : Addr) (q : Str) (Kf : L2.St → Hp → V → PyData → Prop) (t : TA) : TE := fun σ H Q => t σ H fun vs H1 => TabS H1 P q ∧ ∃ (a : Addr) (n : Nat) (k : V → PyData), vs = [.ref a] ∧ H1 a = some (.rng 0 (n : Int)) ∧ n ≤ 10000 ∧
  PySem.W.AllAlike ((rngV n).map k) ∧ PySem.W.Sortable ((rngV n).map k) ∧ (∀ x ∈ rngV n, (k x).depth ≤ 8) ∧ (∀ x ∈ rngV n, ∀ H2, TbL P q H1 H2 → Kf σ H2 x (k x)) ∧ ∀ H2 p, TbL P q H1 H2 → H2 p = none → Q (.ref p) (upd H2 p (.lst ((rngV n).mergeSort (PySem.W.dataLe false k))))
section
variable {X : Cx} {c P : Addr} {e : Expr} {t : TA} {params : Arguments} {body : Expr} {scope : Scope} {a : Str} {lpos kpos p pos : Pos} {Kf : L2.St → Hp → V → PyData → Prop}
theorem pe_sortedLR (TB : LamX.TabB X.base X.mg c P) (hcode : X.env.code = .ref c) (hg : Gl X "sorted") (hm : X.mg "sorted" = none) (hr : Room 3 X.A) (ha : PA X [e] t) (hdef : defaultsOf params X.env = ([], [])) (LP : LamP X.env.scope scope a)
    (hbind : ∀ (v pm ctv : Value) (c' : Addr), bindArgs (PySem.W.kla_fn "<lambda>" (X.env.qual ++ "<lambda>") params body scope (cloFrom X.env.cells scope.names []) pm (.ref c') ctv) ⟨[v], []⟩ = pure [(a, v)])
    (hkey : KeyBody X scope a body Kf) (h1 : backTo pos (starEach [e] X.env) = (false, eval e X.env) :: backTo pos (starEach [] X.env) := by rfl) (h2 : (backTo pos (starEach [e] X.env)).any (·.1) = false := by rfl) :
    PE X (.Call (.Name "sorted" p) [e] [⟨some "key", .Lambda params body scope lpos, kpos⟩] pos) (tSortLR P (X.env.qual ++ "<lambda>") Kf t) := by
  refine ⟨fun pins s σ H Q I h => ?_⟩
  refine wpAny_Call_Name_kw (ld_blt I hg hm (show bootBuiltins "sorted" = some (.builtin "sorted") by decide +kernel) ?_ (by decide) (by decide))
  refine PyProof.Rows.callWith_kw (thn (ha.run pos pins s σ H _ I h) fun us s1 ⟨vs, H1, I1, r1, hT, aL, n, k, ev, hS, hn, hal, hso, hdp, hkf, q1⟩ => ?_) h1 h2 rfl rfl
  subst ev
  obtain rfl := Vals.ref1 r1
  show wpAny _ _ (evalAll [do let v ← eval (.Lambda params body scope lpos) X.env; standAt pos; pure v]) _ _ s1
  have hfree : ∀ y ∈ scope.names, y.2 = .free → ∃ c, X.env.cells.lookup y.1 = some c := fun y hy e => by
    rcases LP.free y hy e with z | z
    · exact I.ok.has _ (.inl z)
    · exact I.ok.has _ (.inr z)
  refine wpAny_evalAll_cons (wpAny_bind (lam_make2 (T := [(P, X.env.qual ++ "<lambda>")]) I1 TB hcode (List.mem_cons_self ..) (fun p hp _ => by rw [List.mem_singleton.mp hp]) (fun p hp => by rw [List.mem_singleton.mp hp]; exact hT) hdef hfree
    fun f c' pm ctv H2 s2 I2 x2 T2 hf nf ff hc => wpAny_bind (wpAny_standAt (wpAny_pure (wpAny_evalAll_nil ?_)))))
  have tb2 : TbL P (X.env.qual ++ "<lambda>") H1 H2 := ⟨T2 _ (List.mem_cons_self ..), x2⟩
  have hS2 : H2 aL = some (.rng 0 (n : Int)) := x2 _ _ hS (fun _ w => nomatch w)
  obtain ⟨t0, t1, t2, hra⟩ := (show ObjOk X.prog X.w H2 s2.heap aL (.rng 0 (n : Int)) from I2.hok aL _ hS2)
  show wpAny _ _ (call (.builtin "sorted") [.ref aL] [(Str.ofString "key", .ref f)]) _ _ s2
  have hun := hr.un
  refine sorted_key_range k hr.hd hra hn hal hso (fun x hx => by have := hdp x hx; omega) (fun v x hR hx h tk kp => ?_) (fun pn out c h' tk n0 kp ho eo => ?_)
  · have I3 : Inv X pins σ H2 { s2 with heap := h, toks := tk } := I2.kept kp
    have hf3 := kp _ _ hf
    obtain ⟨⟨oc, vs', t', hoc, hdc, hvc⟩, _, _⟩ := I2.hok c' _ hc
    have hr2 : Room 1 X.A.in1.in1 := hr.in1.in1
    refine wpAny_call (codeAny_mono (R := fun r s' => ∃ u, r = .ok (.ret u) ∧ PySem.W.KeyPure (k x) { s2 with heap := h, toks := tk } u s') ?_ fun r s' hq => ?_)
    · refine PySem.W.kla_callFunE (by have := hr2.dp; omega) hf3 rfl LP.co LP.gen rfl ⟨c', oc, vs', t', rfl, kp _ _ hoc, hdc, hvc⟩ ?_
      rw [hbind]
      refine wpAny_pure (wpAny_newFunctionEnv (fun y hy => LP.own y hy) (fun y hy => by rw [List.mem_singleton.mp hy]; exact LP.par) (fun h₁ hns hsb => ⟨I3.nolimit.fresh _ hsb, ?_⟩) LP.kind)
      have kp1 : ∀ b o, h.get? b = some o → h₁.get? b = some o := fun b o e => hsb.extBut b o (Nat.ne_of_lt (Heap.lt_size e)) (Heap.get?_push_of_some _ e)
      show codeAny _ _ (.expr body (lamEnv X scope h.objs.size f c')) _ _
      refine PySem.W.kla_codeExpr (wpAny_mono (hkey pins σ H2 { s2 with heap := h, toks := tk } { s2 with heap := h₁, toks := tk + 1 } _ h.objs.size f c' v x (k x) I3 kp1 hns hR (hkf x hx H2 tb2)) (fun u s' hq => ?_) fun _ _ z => z.elim)
      obtain ⟨h5, tk5, rfl, k5, rd⟩ := hq
      exact ⟨u, rfl, h5, tk5, rfl, fun b o e => k5 b o (kp1 b o e), rd⟩
    · obtain ⟨u, rfl, hk⟩ := hq
      exact hk
  · have hlen : ((rngV n).mergeSort (PySem.W.dataLe false k)).length ≤ sizeLine := by rw [List.length_mergeSort, List.length_map, List.length_range]; exact Nat.le_trans hn (by decide)
    have np : H2 pn = none := HOk.gone (show HOk X.prog X.w H2 s2.heap from I2.hok) n0
    exact ⟨.ref _, upd H2 pn (.lst ((rngV n).mergeSort (PySem.W.dataLe false k))), Inv.laidN (t' := tk) I2 kp n0 np ⟨hlen, _, c, eo, ho⟩, rfl, q1 H2 _ tb2 np⟩
end

open LamX
/-! ### a lambda is made: all but its own table stands -/
def ButAt (P : Addr) (H H1 : Hp) : Prop := ∀ b o, b ≠ P → H b = some o → H1 b = some o
theorem lam_make3 {X : Cx} {pins : List (Addr × Obj)} {σ : L2.St} {H : Hp} {s : Shared} {c P : Addr} {params : Arguments} {body : Expr} {scope : Scope} {pos : Pos} {E : Value → Shared → Prop} {Q : Value → Shared → Prop} (I : Inv X pins σ H s) (TB : LamX.TabB X.base X.mg c P) (hcode : X.env.code = .ref c)
    (hT : TabS H P (X.env.qual ++ "<lambda>")) (hdef : defaultsOf params X.env = ([], [])) (hfree : ∀ y ∈ scope.names, y.2 = .free → ∃ c, X.env.cells.lookup y.1 = some c)
    (fin : ∀ (f c' : Addr) (pm ctv : Value) (H1 : Hp) (s' : Shared), Inv X pins σ H1 s' → ButAt P H H1 → TabS H1 P (X.env.qual ++ "<lambda>") →
      s'.heap.get? f = some (PySem.W.kla_obj "<lambda>" (X.env.qual ++ "<lambda>") params body scope (cloFrom X.env.cells scope.names []) pm c' ctv) → H1 c' = some (CodeO c' (X.env.qual ++ "<lambda>")) → Q (.ref f) s') :
    wpAny (model X.prog X.w) X.A (eval (.Lambda params body scope pos) X.env) Q E s := by
  obtain ⟨tb, atP, triples, named⟩ := id hT
  have there : s.heap.get? P = some { cls := .none, data := .fields tb } := I.hok P _ atP
  refine PySem.W.kla_eval hdef ?_
  cases found : codeAmong pos tb.toList with
  | some old =>
    obtain ⟨c', rfl, isCode⟩ := named pos old found
    exact PySem.W.kla_makeFunctionHit (mg := X.mg) (c := c) (P := P) (ps := tb) (closure_ok hfree) I.ok.glob (I.mod.glob.keeps I.bk) hcode (TB.code.keeps I.bk) there triples found (TB.bm.keeps I.bk) fun ctv h' tk kept _ =>
      fin h'.objs.size c' _ ctv H _ (I.kept fun b o e => Heap.get?_push_of_some _ (kept b o e)) (fun _ _ _ e => e) hT (Heap.get?_push_size _ rfl) isCode
  | none =>
    refine PySem.W.kla_makeFunction (mg := X.mg) (c := c) (P := P) (ps := tb) (closure_ok hfree) I.ok.glob (I.mod.glob.keeps I.bk) hcode (TB.code.keeps I.bk) there triples found TB.gP (TB.bm.keeps I.bk) fun c' ctv h' tk kept ge _ rec_ grown => ?_
    obtain ⟨c2, oc, vs, t, same, hoc, hd, hv⟩ := rec_
    cases same
    have new : H c' = none := I.hok.fresh ge
    have J := inv_table (t' := tk) (more := #[rawInt pos.line, rawInt pos.col, .ref c']) (h' := h'.push (PySem.W.kla_obj "<lambda>" (X.env.qual ++ "<lambda>") params body scope (cloFrom X.env.cells scope.names []) ((X.mg "__name__").getD .none) c' ctv)) I atP
      (fun b o hb e => Heap.get?_push_of_some _ (kept b o hb e)) (Heap.get?_push_of_some _ grown) ge ⟨oc, vs, t, Heap.get?_push_of_some _ hoc, hd, hv⟩
    have but : ButAt P H (upd (upd H P (.tbl (tb ++ #[rawInt pos.line, rawInt pos.col, .ref c']))) c' (CodeO c' (X.env.qual ++ "<lambda>"))) := fun b o hb e => by
      rw [upd_ne (ne_of_none e new), upd_ne hb]
      exact e
    have aslist : (tb ++ #[rawInt pos.line, rawInt pos.col, .ref c']).toList = tb.toList ++ [rawInt pos.line, rawInt pos.col, .ref c'] := by simp
    refine fin h'.objs.size c' _ ctv _ _ J but ⟨_, by rw [upd_ne (ne_of_none atP new), upd_same], by rw [aslist]; exact PySem.TriplesOk_snoc _ _ _ _ triples, fun p' cv hcv => ?_⟩ (Heap.get?_push_size _ rfl) upd_same
    rw [aslist] at hcv
    rcases among_app _ triples hcv with z | z
    · obtain ⟨c0, e1, e2⟩ := named p' cv z
      exact ⟨c0, e1, but _ _ (fun w => by rw [w, atP] at e2; exact codeO_ne tb (Option.some.inj e2).symm) e2⟩
    · exact ⟨c', z, upd_same⟩
def tSortL3 (P : Addr) (q : Str) (Kf : L2.St → Hp → V → PyData → Prop) (t : TA) : TE := fun σ H Q => t σ H fun vs H1 => TabS H1 P q ∧ ∃ (a : Addr) (n : Nat) (k : V → PyData), vs = [.ref a] ∧ H1 a = some (.rng 0 (n : Int)) ∧ n ≤ 10000 ∧
  PySem.W.AllAlike ((rngV n).map k) ∧ PySem.W.Sortable ((rngV n).map k) ∧ (∀ x ∈ rngV n, (k x).depth ≤ 8) ∧ (∀ x ∈ rngV n, ∀ H2, TbL P q H1 H2 → Kf σ H2 x (k x)) ∧ ∀ H2 p, TbL P q H1 H2 → ButAt P H1 H2 → H2 p = none → Q (.ref p) (upd H2 p (.lst ((rngV n).mergeSort (PySem.W.dataLe false k))))
section
variable {X : Cx} {c P : Addr} {e : Expr} {t : TA} {params : Arguments} {body : Expr} {scope : Scope} {a : Str} {lpos kpos p pos : Pos} {Kf : L2.St → Hp → V → PyData → Prop}
theorem pe_sortedL3 (TB : LamX.TabB X.base X.mg c P) (hcode : X.env.code = .ref c) (hg : Gl X "sorted") (hm : X.mg "sorted" = none) (hr : Room 3 X.A) (ha : PA X [e] t) (hdef : defaultsOf params X.env = ([], [])) (LP : LamP X.env.scope scope a)
    (hbind : ∀ (v pm ctv : Value) (c' : Addr), bindArgs (PySem.W.kla_fn "<lambda>" (X.env.qual ++ "<lambda>") params body scope (cloFrom X.env.cells scope.names []) pm (.ref c') ctv) ⟨[v], []⟩ = pure [(a, v)])
    (hkey : KeyBody X scope a body Kf) (h1 : backTo pos (starEach [e] X.env) = (false, eval e X.env) :: backTo pos (starEach [] X.env) := by rfl) (h2 : (backTo pos (starEach [e] X.env)).any (·.1) = false := by rfl) :
    PE X (.Call (.Name "sorted" p) [e] [⟨some "key", .Lambda params body scope lpos, kpos⟩] pos) (tSortL3 P (X.env.qual ++ "<lambda>") Kf t) := by
  refine ⟨fun pins s σ H Q I h => ?_⟩
  refine wpAny_Call_Name_kw (ld_blt I hg hm (show bootBuiltins "sorted" = some (.builtin "sorted") by decide +kernel) ?_ (by decide) (by decide))
  refine PyProof.Rows.callWith_kw (thn (ha.run pos pins s σ H _ I h) fun us s1 ⟨vs, H1, I1, r1, hT, aL, n, k, ev, hS, hn, hal, hso, hdp, hkf, q1⟩ => ?_) h1 h2 rfl rfl
  subst ev
  obtain rfl := Vals.ref1 r1
  show wpAny _ _ (evalAll [do let v ← eval (.Lambda params body scope lpos) X.env; standAt pos; pure v]) _ _ s1
  have hfree : ∀ y ∈ scope.names, y.2 = .free → ∃ c, X.env.cells.lookup y.1 = some c := fun y hy e => by
    rcases LP.free y hy e with z | z
    · exact I.ok.has _ (.inl z)
    · exact I.ok.has _ (.inr z)
  refine wpAny_evalAll_cons (wpAny_bind (lam_make3 I1 TB hcode hT hdef hfree fun f c' pm ctv H2 s2 I2 b2 T2 hf hc => wpAny_bind (wpAny_standAt (wpAny_pure (wpAny_evalAll_nil ?_)))))
  have x2 : ∀ b o, H1 b = some o → (∀ ps, o ≠ .tbl ps) → H2 b = some o := fun b o e n => b2 b o (fun z => by
    obtain ⟨ps, hP, _⟩ := hT
    rw [z, hP] at e
    exact n ps (Option.some.inj e).symm) e
  have tb2 : TbL P (X.env.qual ++ "<lambda>") H1 H2 := ⟨T2, x2⟩
  have hS2 : H2 aL = some (.rng 0 (n : Int)) := x2 _ _ hS (fun _ w => nomatch w)
  obtain ⟨t0, t1, t2, hra⟩ := (show ObjOk X.prog X.w H2 s2.heap aL (.rng 0 (n : Int)) from I2.hok aL _ hS2)
  show wpAny _ _ (call (.builtin "sorted") [.ref aL] [(Str.ofString "key", .ref f)]) _ _ s2
  have hun := hr.un
  refine sorted_key_range k hr.hd hra hn hal hso (fun x hx => by have := hdp x hx; omega) (fun v x hR hx h tk kp => ?_) (fun pn out c h' tk n0 kp ho eo => ?_)
  · have I3 : Inv X pins σ H2 { s2 with heap := h, toks := tk } := I2.kept kp
    have hf3 := kp _ _ hf
    obtain ⟨⟨oc, vs', t', hoc, hdc, hvc⟩, _, _⟩ := I2.hok c' _ hc
    have hr2 : Room 1 X.A.in1.in1 := hr.in1.in1
    refine wpAny_call (codeAny_mono (R := fun r s' => ∃ u, r = .ok (.ret u) ∧ PySem.W.KeyPure (k x) { s2 with heap := h, toks := tk } u s') ?_ fun r s' hq => ?_)
    · refine PySem.W.kla_callFunE (by have := hr2.dp; omega) hf3 rfl LP.co LP.gen rfl ⟨c', oc, vs', t', rfl, kp _ _ hoc, hdc, hvc⟩ ?_
      rw [hbind]
      refine wpAny_pure (wpAny_newFunctionEnv (fun y hy => LP.own y hy) (fun y hy => by rw [List.mem_singleton.mp hy]; exact LP.par) (fun h₁ hns hsb => ⟨I3.nolimit.fresh _ hsb, ?_⟩) LP.kind)
      have kp1 : ∀ b o, h.get? b = some o → h₁.get? b = some o := fun b o e => hsb.extBut b o (Nat.ne_of_lt (Heap.lt_size e)) (Heap.get?_push_of_some _ e)
      show codeAny _ _ (.expr body (lamEnv X scope h.objs.size f c')) _ _
      refine PySem.W.kla_codeExpr (wpAny_mono (hkey pins σ H2 { s2 with heap := h, toks := tk } { s2 with heap := h₁, toks := tk + 1 } _ h.objs.size f c' v x (k x) I3 kp1 hns hR (hkf x hx H2 tb2)) (fun u s' hq => ?_) fun _ _ z => z.elim)
      obtain ⟨h5, tk5, rfl, k5, rd⟩ := hq
      exact ⟨u, rfl, h5, tk5, rfl, fun b o e => k5 b o (kp1 b o e), rd⟩
    · obtain ⟨u, rfl, hk⟩ := hq
      exact hk
  · have hlen : ((rngV n).mergeSort (PySem.W.dataLe false k)).length ≤ sizeLine := by rw [List.length_mergeSort, List.length_map, List.length_range]; exact Nat.le_trans hn (by decide)
    have np : H2 pn = none := HOk.gone (show HOk X.prog X.w H2 s2.heap from I2.hok) n0
    exact ⟨.ref _, upd H2 pn (.lst ((rngV n).mergeSort (PySem.W.dataLe false k))), Inv.laidN (t' := tk) I2 kp n0 np ⟨hlen, _, c, eo, ho⟩, rfl, q1 H2 _ tb2 b2 np⟩
end

/-! ### sorted(xs, key=lambda a: ..): all but the lambda's own table stands -/
def tSortL4 (K : PySem.W.Frag) (P : Addr) (q : Str) (Kf : L2.St → Hp → V → PyData → Prop) (t : TA) : TE := fun σ H Q => t σ H fun vs H1 => TabS H1 P q ∧ ∃ (a : Addr) (xs : List V) (k : V → PyData), vs = [.ref a] ∧ SqL K H1 a xs ∧
  PySem.W.AllAlike (xs.map k) ∧ PySem.W.Sortable (xs.map k) ∧ (∀ x ∈ xs, (k x).depth ≤ 8) ∧ (∀ x ∈ xs, ∀ H2, TbL P q H1 H2 → Kf σ H2 x (k x)) ∧ ∀ H2 p, TbL P q H1 H2 → ButAt P H1 H2 → H2 p = none → Q (.ref p) (upd H2 p (.lst (xs.mergeSort (PySem.W.dataLe false k))))
section
variable {X : Cx} {c P : Addr} {e : Expr} {t : TA} {params : Arguments} {body : Expr} {scope : Scope} {a : Str} {lpos kpos p pos : Pos} {Kf : L2.St → Hp → V → PyData → Prop}
theorem pe_sortedL4 (TB : LamX.TabB X.base X.mg c P) (hcode : X.env.code = .ref c) (hg : Gl X "sorted") (hm : X.mg "sorted" = none) (hr : Room 3 X.A) (ha : PA X [e] t) (hdef : defaultsOf params X.env = ([], [])) (LP : LamP X.env.scope scope a)
    (hbind : ∀ (v pm ctv : Value) (c' : Addr), bindArgs (PySem.W.kla_fn "<lambda>" (X.env.qual ++ "<lambda>") params body scope (cloFrom X.env.cells scope.names []) pm (.ref c') ctv) ⟨[v], []⟩ = pure [(a, v)])
    (hkey : KeyBody X scope a body Kf) (h1 : backTo pos (starEach [e] X.env) = (false, eval e X.env) :: backTo pos (starEach [] X.env) := by rfl) (h2 : (backTo pos (starEach [e] X.env)).any (·.1) = false := by rfl) :
    PE X (.Call (.Name "sorted" p) [e] [⟨some "key", .Lambda params body scope lpos, kpos⟩] pos) (tSortL4 X.K P (X.env.qual ++ "<lambda>") Kf t) := by
  refine ⟨fun pins s σ H Q I h => ?_⟩
  refine wpAny_Call_Name_kw (ld_blt I hg hm (show bootBuiltins "sorted" = some (.builtin "sorted") by decide +kernel) ?_ (by decide) (by decide))
  refine PyProof.Rows.callWith_kw (thn (ha.run pos pins s σ H _ I h) fun us s1 ⟨vs, H1, I1, r1, hT, aL, xs, k, ev, hS, hal, hso, hdp, hkf, q1⟩ => ?_) h1 h2 rfl rfl
  subst ev
  obtain rfl := Vals.ref1 r1
  show wpAny _ _ (evalAll [do let v ← eval (.Lambda params body scope lpos) X.env; standAt pos; pure v]) _ _ s1
  have hfree : ∀ y ∈ scope.names, y.2 = .free → ∃ c, X.env.cells.lookup y.1 = some c := fun y hy e => by
    rcases LP.free y hy e with z | z
    · exact I.ok.has _ (.inl z)
    · exact I.ok.has _ (.inr z)
  refine wpAny_evalAll_cons (wpAny_bind (lam_make3 I1 TB hcode hT hdef hfree fun f c' pm ctv H2 s2 I2 b2 T2 hf hc => wpAny_bind (wpAny_standAt (wpAny_pure (wpAny_evalAll_nil ?_)))))
  have x2 : ∀ b o, H1 b = some o → (∀ ps, o ≠ .tbl ps) → H2 b = some o := fun b o e n => b2 b o (fun z => by
    obtain ⟨ps, hP, _⟩ := hT
    rw [z, hP] at e
    exact n ps (Option.some.inj e).symm) e
  have tb2 : TbL P (X.env.qual ++ "<lambda>") H1 H2 := ⟨T2, x2⟩
  have hS2 : SqL X.K H2 aL xs := by
    rcases hS with z | z
    · rcases z with z | ⟨o, z⟩
      · exact .inl (.inl (x2 _ _ z (fun _ w => nomatch w)))
      · exact .inl (.inr ⟨o, x2 _ _ z (fun _ w => nomatch w)⟩)
    · exact .inr z
  obtain ⟨its, rv, pl, hz⟩ := I2.list hS2
  show wpAny _ _ (call (.builtin "sorted") [.ref aL] [(Str.ofString "key", .ref f)]) _ _ s2
  have hun := hr.un
  refine PySem.W.sorted_key_data (R := fun v x => RelV x v) (bs := xs) (vs := its) (b := false) k pl.isList (each_vals rv) hal hso hz (fun x hx => by have := hdp x hx; omega) (PyProof.Rows.ksk_s1 _ _) (fun _ => PyProof.Rows.ksk_l1 _ _) (fun x => PyProof.Rows.ksk_t1 f x) (fun v x hR hx h tk kp => ?_) (fun out c h' tk kp n0 ho hl eo => ?_)
  · have I3 : Inv X pins σ H2 { s2 with heap := h, toks := tk } := I2.kept kp
    have hf3 := kp _ _ hf
    obtain ⟨⟨oc, vs', t', hoc, hdc, hvc⟩, _, _⟩ := I2.hok c' _ hc
    have hr2 : Room 1 X.A.in1.in1 := hr.in1.in1
    refine wpAny_call (codeAny_mono (R := fun r s' => ∃ u, r = .ok (.ret u) ∧ PySem.W.KeyPure (k x) { s2 with heap := h, toks := tk } u s') ?_ fun r s' hq => ?_)
    · refine PySem.W.kla_callFunE (by have := hr2.dp; omega) hf3 rfl LP.co LP.gen rfl ⟨c', oc, vs', t', rfl, kp _ _ hoc, hdc, hvc⟩ ?_
      rw [hbind]
      refine wpAny_pure (wpAny_newFunctionEnv (fun y hy => LP.own y hy) (fun y hy => by rw [List.mem_singleton.mp hy]; exact LP.par) (fun h₁ hns hsb => ⟨I3.nolimit.fresh _ hsb, ?_⟩) LP.kind)
      have kp1 : ∀ b o, h.get? b = some o → h₁.get? b = some o := fun b o e => hsb.extBut b o (Nat.ne_of_lt (Heap.lt_size e)) (Heap.get?_push_of_some _ e)
      show codeAny _ _ (.expr body (lamEnv X scope h.objs.size f c')) _ _
      refine PySem.W.kla_codeExpr (wpAny_mono (hkey pins σ H2 { s2 with heap := h, toks := tk } { s2 with heap := h₁, toks := tk + 1 } _ h.objs.size f c' v x (k x) I3 kp1 hns hR (hkf x hx H2 tb2)) (fun u s' hq => ?_) fun _ _ z => z.elim)
      obtain ⟨h5, tk5, rfl, k5, rd⟩ := hq
      exact ⟨u, rfl, h5, tk5, rfl, fun b o e => k5 b o (kp1 b o e), rd⟩
    · obtain ⟨u, rfl, hk⟩ := hq
      exact hk
  · have hlen : (xs.mergeSort (PySem.W.dataLe false k)).length ≤ sizeLine := by rw [List.length_mergeSort]; exact hz
    have np : H2 (s2.heap.objs.size + 1) = none := I2.hok.fresh (Nat.le_succ _)
    exact ⟨.ref _, upd H2 (s2.heap.objs.size + 1) (.lst (xs.mergeSort (PySem.W.dataLe false k))), I2.laid (t' := tk) kp (Nat.le_succ _) ⟨hlen, _, c, vals_each eo, ho⟩, rfl, q1 H2 _ tb2 b2 np⟩
end


/-! ### the pages in their order -/
def PgAt (H : Hp) (v : V) (p : Page) : Prop := ∃ a D, v = .ref a ∧ H a = some (.tup [.int p.day, .int p.num, .ref D]) ∧ DeedAt H D p.deed
theorem PgAt.kpl {H H' : Hp} {v : V} {p : Page} (h : PgAt H v p) (k : KpL H H') : PgAt H' v p := let ⟨a, D, e, e1, h1⟩ := h; ⟨a, D, e, k.t _ _ e1, h1.kpl k⟩
def PgL (H : Hp) (us : List V) (ps : List Page) : Prop := us.length = ps.length ∧ ∀ (i : Nat) v p, us[i]? = some v → ps[i]? = some p → PgAt H v p
theorem PgL.kpl {H H' : Hp} {us : List V} {ps : List Page} (h : PgL H us ps) (k : KpL H H') : PgL H' us ps := ⟨h.1, fun i v p e1 e2 => (h.2 i v p e1 e2).kpl k⟩
theorem PgL.at {H : Hp} {us : List V} {ps : List Page} (h : PgL H us ps) {i : Nat} {v : V} (e : us[i]? = some v) : ∃ p, ps[i]? = some p ∧ PgAt H v p := by
  have hi : i < ps.length := by rw [← h.1]; exact (List.getElem?_eq_some_iff.mp e).1
  exact ⟨_, List.getElem?_eq_getElem hi, h.2 i v _ e (List.getElem?_eq_getElem hi)⟩
theorem PgL.nil {H : Hp} : PgL H [] [] := ⟨rfl, fun i v p e => nomatch e⟩
theorem PgL.cons {H : Hp} {v : V} {p : Page} {us : List V} {ps : List Page} (h : PgAt H v p) (hs : PgL H us ps) : PgL H (v :: us) (p :: ps) :=
  ⟨congrArg (· + 1) hs.1, fun i w q e1 e2 => by
    cases i with
    | zero => cases e1; cases e2; exact h
    | succ i => exact hs.2 i w q e1 e2⟩
theorem PgL.inv {H : Hp} {v : V} {us : List V} {ps : List Page} (h : PgL H (v :: us) ps) : ∃ p qs, ps = p :: qs ∧ PgAt H v p ∧ PgL H us qs := by
  cases ps with
  | nil => cases h.1
  | cons p qs => exact ⟨p, qs, rfl, h.2 0 v p rfl rfl, Nat.succ.inj h.1, fun i w q e1 e2 => h.2 (i + 1) w q e1 e2⟩
theorem PgL.snoc {H : Hp} {v : V} {p : Page} {us : List V} {ps : List Page} (h : PgL H us ps) (hv : PgAt H v p) : PgL H (us ++ [v]) (ps ++ [p]) := by
  induction us generalizing ps with
  | nil =>
    cases ps with
    | nil => exact .cons hv .nil
    | cons => cases h.1
  | cons u us ih =>
    obtain ⟨q, qs, rfl, hq, hs⟩ := h.inv
    exact .cons hq (ih hs)
theorem PgL.inv2 {H : Hp} {v : V} {p : Page} {us : List V} {ps : List Page} (h : PgL H (v :: us) (p :: ps)) : PgAt H v p ∧ PgL H us ps := by
  obtain ⟨q, qs, e, h1, h2⟩ := h.inv
  cases e
  exact ⟨h1, h2⟩
theorem pgl_perm {us ys : List V} (h : us.Perm ys) : ∀ {ps : List Page}, us.length = ps.length → ∃ ps', ps'.Perm ps ∧ ∀ H, PgL H us ps → PgL H ys ps' := by
  induction h with
  | nil => intro ps h; exact ⟨ps, List.Perm.refl _, fun _ h => h⟩
  | cons x _ ih =>
    intro ps h
    cases ps with
    | nil => cases h
    | cons p qs =>
      obtain ⟨qs', h1, h2⟩ := ih (Nat.succ.inj h)
      exact ⟨p :: qs', h1.cons p, fun H hh => .cons hh.inv2.1 (h2 H hh.inv2.2)⟩
  | swap x y r =>
    intro ps h
    match ps, h with
    | p :: p2 :: qs, h => exact ⟨p2 :: p :: qs, List.Perm.swap _ _ _, fun H hh => .cons hh.inv2.2.inv2.1 (.cons hh.inv2.1 hh.inv2.2.inv2.2)⟩
  | trans a _ ih1 ih2 =>
    intro ps h
    obtain ⟨ps1, h1, h2⟩ := ih1 h
    obtain ⟨ps2, h3, h4⟩ := ih2 (by rw [← a.length_eq, h, h1.length_eq])
    exact ⟨ps2, h3.trans h1, fun H hh => h4 H (h2 H hh)⟩
def pgK (p : Page) : PyData := .tuple [.int p.day, .int p.num]
def kPg (H : Hp) (v : V) : PyData := match v with
  | .ref a => (match H a with
    | some (.tup (.int i :: .int j :: _)) => .tuple [.int i, .int j]
    | _ => .tuple [.int 0, .int 0])
  | _ => .tuple [.int 0, .int 0]
theorem PgAt.key {H : Hp} {v : V} {p : Page} (h : PgAt H v p) : kPg H v = pgK p := by
  obtain ⟨a, D, rfl, e, _⟩ := h
  unfold kPg
  simp only [e]
  rfl
theorem PgL.keys {H : Hp} {us : List V} {ps : List Page} (h : PgL H us ps) : us.map (kPg H) = ps.map pgK := by
  induction us generalizing ps with
  | nil =>
    cases ps with
    | nil => rfl
    | cons => cases h.1
  | cons u us ih =>
    obtain ⟨q, qs, rfl, hq, hs⟩ := h.inv
    rw [List.map_cons, List.map_cons, hq.key, ih hs]
def PgLe (p q : Page) : Prop := p.day < q.day ∨ (p.day = q.day ∧ p.num ≤ q.num)
theorem toks2 (i j : Int) : PySem.W.keyToks (.tuple [.int i, .int j]) = [.inl 1, .inl i, .inl 1, .inl j, .inl 0] := by
  simp [PySem.W.keyToks, PySem.W.keyToksAll]
theorem lex2 (i j i' j' : Int) : PyProof.Rows.lexLt PyProof.Rows.itemOrd (PySem.W.keyToks (.tuple [.int i, .int j])) (PySem.W.keyToks (.tuple [.int i', .int j'])) = true ↔ i < i' ∨ (i = i' ∧ j < j') := by
  rw [toks2, toks2, PyProof.Rows.lex_self, PyProof.Rows.lex_true]
  have e1 : PyProof.Rows.itemOrd.blt (.inl i) (.inl i') = true ↔ i < i' := by show decide (i < i') = true ↔ _; exact decide_eq_true_iff
  have e2 : PyProof.Rows.itemOrd.blt (.inl i') (.inl i) = false ↔ ¬ i' < i := by show decide (i' < i) = false ↔ _; exact decide_eq_false_iff_not
  have e3 : PyProof.Rows.itemOrd.blt (.inl j) (.inl j') = true ↔ j < j' := by show decide (j < j') = true ↔ _; exact decide_eq_true_iff
  rw [e1, e2, PyProof.Rows.lex_self, PyProof.Rows.lex_true, e3, PyProof.Rows.lex_self]
  have e4 : ¬ (PyProof.Rows.lexLt PyProof.Rows.itemOrd [] [] = true) := by decide
  constructor
  · rintro (h | ⟨h1, h2 | ⟨_, h⟩⟩)
    · exact .inl h
    · rcases Int.lt_or_le i i' with z | z
      · exact .inl z
      · exact .inr ⟨by omega, h2⟩
    · exact absurd h e4
  · rintro (h | ⟨h1, h2⟩)
    · exact .inl h
    · exact .inr ⟨by omega, .inl h2⟩
theorem pgLe_of {H : Hp} {u v : V} {p q : Page} (h : PySem.W.dataLe false (kPg H) u v = true) (hp : PgAt H u p) (hq : PgAt H v q) : PgLe p q := by
  have h : (!PyProof.Rows.lexLt PyProof.Rows.itemOrd (PySem.W.keyToks (kPg H v)) (PySem.W.keyToks (kPg H u))) = true := h
  rw [hp.key, hq.key] at h
  have h2 : ¬ (q.day < p.day ∨ (q.day = p.day ∧ q.num < p.num)) := fun z => by
    have := (lex2 q.day q.num p.day p.num).mpr z
    unfold pgK at h
    rw [this] at h
    cases h
  unfold PgLe
  omega
theorem pgPw : ∀ {H : Hp} {us : List V} {ps : List Page}, PgL H us ps → us.Pairwise (fun u v => PySem.W.dataLe false (kPg H) u v = true) → ps.Pairwise PgLe
  | H, [], ps, h, _ => by
    cases ps with
    | nil => exact List.Pairwise.nil
    | cons => cases h.1
  | H, u :: us, ps, h, hp => by
    obtain ⟨p, qs, rfl, hq, hs⟩ := h.inv
    obtain ⟨h1, h2⟩ := List.pairwise_cons.mp hp
    refine List.pairwise_cons.mpr ⟨fun q hq2 => ?_, pgPw hs h2⟩
    obtain ⟨i, hi, rfl⟩ := List.getElem_of_mem hq2
    have hl : i < us.length := by rw [hs.1]; exact hi
    exact pgLe_of (h1 us[i] (List.getElem_mem hl)) hq (hs.2 i _ _ (List.getElem?_eq_getElem hl) (List.getElem?_eq_getElem hi))
theorem pw_unique {α : Type} {R : α → α → Prop} : ∀ {xs ys : List α}, xs.Perm ys → xs.Pairwise R → ys.Pairwise R → (∀ a ∈ xs, ∀ b ∈ xs, R a b → R b a → a = b) → xs = ys
  | [], ys, h, _, _, _ => h.nil_eq
  | x :: r, [], h, _, _, _ => nomatch h.length_eq
  | x :: r, y :: t, h, p1, p2, an => by
    obtain ⟨a1, b1⟩ := List.pairwise_cons.mp p1
    obtain ⟨a2, b2⟩ := List.pairwise_cons.mp p2
    have e : x = y := by
      rcases List.mem_cons.mp (h.mem_iff.mpr (List.mem_cons_self ..)) with z | z
      · exact z.symm
      · rcases List.mem_cons.mp (h.mem_iff.mp (List.mem_cons_self ..)) with w | w
        · exact w
        · exact an x (List.mem_cons_self ..) y (List.mem_cons_of_mem _ z) (a1 y z) (a2 x w)
    subst e
    rw [pw_unique (List.Perm.cons_inv h) b1 b2 fun a ha b hb => an a (List.mem_cons_of_mem _ ha) b (List.mem_cons_of_mem _ hb)]
/-- the pages of a heap in their order -/
structure InO (ps out : List Page) : Prop where
  perm : out.Perm ps
  up : out.Pairwise PgLe
theorem InO.one {ps o1 o2 : List Page} (h1 : InO ps o1) (h2 : InO ps o2) (nd : (ps.map fun p => (p.day, p.num)).Nodup) : o1 = o2 := by
  refine pw_unique (h1.perm.trans h2.perm.symm) h1.up h2.up fun a ha b hb r1 r2 => ?_
  have e : (a.day, a.num) = (b.day, b.num) := by
    unfold PgLe at r1 r2
    exact Prod.ext (by show a.day = b.day; omega) (by show a.num = b.num; omega)
  obtain ⟨i, hi, rfl⟩ := List.getElem_of_mem (h1.perm.mem_iff.mp ha)
  obtain ⟨j, hj, rfl⟩ := List.getElem_of_mem (h1.perm.mem_iff.mp hb)
  have : i = j := (List.getElem_inj (h₀ := by rw [List.length_map]; exact hi) (h₁ := by rw [List.length_map]; exact hj) nd).mp (by rw [List.getElem_map, List.getElem_map]; exact e)
  subst this
  rfl
abbrev qO : Str := "in_order" ++ ".<locals>." ++ "<lambda>"
structure LamO (Ms : GX.Mq) (Pi : Addr) : Prop where
  mem : (Pi, qO) ∈ Ms.ls
  one : ∀ l ∈ Ms.ls, l.1 = Pi → l.2 = qO
theorem but_noTab {P : Addr} {q : Str} {H H2 : Hp} (h : LamX.TabS H P q) (h2 : LamX.TabS H2 P q) (k : ButAt P H H2) : GX.NoTab H H2 := by
  obtain ⟨ps, e, _⟩ := h
  obtain ⟨ps2, e2, _⟩ := h2
  exact GX.But.noTab k e e2
theorem KpL.noTab {H H' : Hp} (n : GX.NoTab H H') : KpL H H' := ⟨fun _ _ e => n.lst e, fun _ _ e => n.tup e⟩
def spInOrder (K : PySem.W.Frag) (Ms : GX.Mq) (Xs : List Addr) (Pi : Addr) : Sp := fun vs H Q _ => ∃ (a : Addr) (us : List V) (ps : List Page), vs = [.ref a] ∧ H a = some (.lst us) ∧ PgL H us ps ∧ GX.TQ Ms Xs H ∧ LamO Ms Pi ∧
  ∀ l ys out H', H l = none → GX.NoTab H H' → GX.TQ Ms Xs H' → H' l = some (.lst ys) → (∀ H0, PgL H0 us ps → PgL H0 ys out) → InO ps out → Q (.ref l) H'
abbrev sInOrder : Stmt := topS 15
theorem scInOrder : FnScope ["pages"] ["pages"] (defScope sInOrder) := ⟨rfl, rfl, rfl, by decide +kernel, rfl, by decide +kernel, by decide +kernel⟩
section
variable {K : PySem.W.Frag} {mg : Str → Option Value} {P : Program} {w : World} {base : Heap}
theorem ok_InOrder {Ms : GX.Mq} {Xs : List Addr} {f c Pi : Addr} {oc kV doc pm ct : Value} {od an : Option Addr} {osl : Array (Option Value)} (lk : K.lookup f = some ⟨oc, od, .func (PySem.W.fnOf "in_order" "in_order" (defArgs sInOrder) (defBody sInOrder) (defScope sInOrder) .none kV doc pm an (.ref c) ct), osl⟩) (hcd : PySem.W.codeIn K (.ref c) "in_order" = true) (TG : GxR.TabB base mg c Pi) (m_sorted : mg "sorted" = none) : FnOk P w K mg base CX0 4 f (PySem.W.fnOf "in_order" "in_order" (defArgs sInOrder) (defBody sInOrder) (defScope sInOrder) .none kV doc pm an (.ref c) ct) ["pages"] (spInOrder K Ms Xs Pi) := by
  refine fn_of lk hcd scInOrder (fun vs H Q E h => ?_) (fun A outer s H vs Q E hr h => ?_)
  · obtain ⟨a, us, ps, rfl, _⟩ := h
    rfl
  · obtain ⟨a, us, ps, rfl, ea, hu, hT, hL, q⟩ := h
    refine ⟨_, PSs.nox (pss_one (ps_ret (pe_sortedL4 ⟨TG.code, TG.bm, TG.gP⟩ rfl (by rfl) m_sorted hr (pa_cons (pv 0) pa_nil) (by rfl) (lamP_by (sc := defScope sInOrder) (by decide +kernel)) (fun _ _ _ _ => rfl) (key_pair (lamP_by (sc := defScope sInOrder) (by decide +kernel)) (by decide))))), ?_⟩
    have hTab := (hT.lam _ hL.mem).2.2
    refine ⟨_, rfl, hTab, a, us, kPg H, rfl, SqL.of ea, fun d hd d' hd' => ?_, .inl fun d hd => ?_, fun x hx => ?_, fun x hx H2 tb => ?_, fun H2 p tb bt np => ?_⟩
    · rw [hu.keys] at hd hd'
      obtain ⟨p, _, rfl⟩ := List.mem_map.mp hd
      obtain ⟨p', _, rfl⟩ := List.mem_map.mp hd'
      simp [pgK, PySem.W.alike, PySem.W.alikeAll]
    · rw [hu.keys] at hd
      obtain ⟨p, _, rfl⟩ := List.mem_map.mp hd
      exact ⟨_, _, rfl⟩
    · obtain ⟨i, ei⟩ := List.getElem?_of_mem hx
      obtain ⟨p, _, hp⟩ := hu.at ei
      rw [hp.key]
      simp [pgK, PyData.depth, PyData.depthAll]
    · obtain ⟨i, ei⟩ := List.getElem?_of_mem hx
      obtain ⟨p, _, hp⟩ := hu.at ei
      rw [hp.key]
      obtain ⟨a', D, rfl, e, _⟩ := hp
      exact ⟨a', _, p.day, p.num, rfl, .inl (.inl (tb.2 _ _ e (fun _ z => nomatch z))), atI_nat (j := 0) rfl, atI_nat (j := 1) rfl, rfl⟩
    · have n2 : GX.NoTab H H2 := but_noTab hTab tb.1 bt
      have t2 := hT.lamS hL.mem hL.one tb.1 bt
      have sp := same_upd (o := .lst (us.mergeSort (PySem.W.dataLe false (kPg H)))) np
      have k3 := KpL.noTab (n2.trans (NoTab.same sp))
      have hpm := List.mergeSort_perm us (PySem.W.dataLe false (kPg H))
      obtain ⟨out, h1, h2⟩ := pgl_perm hpm.symm hu.1
      refine q p _ out _ (n2.free np) (n2.trans (NoTab.same sp)) (t2.same sp) upd_same h2 ⟨h1, pgPw (h2 H hu) ?_⟩
      have tt := PySem.W.sortLe_total (PyProof.Rows.listOrd PyProof.Rows.itemOrd) false fun b => PySem.W.keyToks (kPg H b)
      exact List.pairwise_mergeSort tt.trans (fun a b => Bool.or_eq_true_iff.mpr (tt.total a b)) us
end

/-! ### word_of, cases_at -/
structure KNames (K : PySem.W.Frag) (w : World) (dN : Addr) : Prop where
  pack : KDct K w dN "pack" (.int 1)
  lade : KDct K w dN "lade" (.int 3)
  sell : KDct K w dN "sell" (.int 2)
  back : KDct K w dN "back" (.int 2)
  tell : KDct K w dN "tell" (.int 2)
def Deed.kind : Deed → Str
  | .pack .. => "pack"
  | .lade .. => "lade"
  | .sell .. => "sell"
  | .back .. => "back"
  | .tell .. => "tell"
def Deed.at : Deed → Nat
  | .pack .. => 1
  | .lade .. => 3
  | _ => 2
/-- the deed's tuple: its kind first, its name where it should be -/
theorem DeedAt.tup {H : Hp} {D : Addr} {d : Deed} (h : DeedAt H D d) : ∃ xs, H D = some (.tup xs) ∧ atI xs 0 = some (.str d.kind) ∧ atI xs (d.at : Int) = some (.str d.nam) := by
  cases d with
  | pack n m x => exact ⟨_, h, atI_nat (j := 0) rfl, atI_nat (j := 1) rfl⟩
  | lade o t n a b => exact ⟨_, h, atI_nat (j := 0) rfl, atI_nat (j := 3) rfl⟩
  | sell x n a b => exact ⟨_, h, atI_nat (j := 0) rfl, atI_nat (j := 2) rfl⟩
  | back x n a b => exact ⟨_, h, atI_nat (j := 0) rfl, atI_nat (j := 2) rfl⟩
  | tell x n t => obtain ⟨c, e, _⟩ := h; exact ⟨_, e, atI_nat (j := 0) rfl, atI_nat (j := 2) rfl⟩
theorem KNames.get {K : PySem.W.Frag} {w : World} {dN : Addr} (h : KNames K w dN) (d : Deed) : KDct K w dN d.kind (.int (d.at : Int)) := by
  cases d with
  | pack => exact h.pack
  | lade => exact h.lade
  | sell => exact h.sell
  | back => exact h.back
  | tell => exact h.tell
/-- the names of a dict by texts -/
def NamK (kvs : List (L2.Key × V)) (st : StF) : Prop := kvs.map (·.1) = st.map fun e => (.inr e.1 : L2.Key)
theorem valK_is {kvs : List (L2.Key × V)} {st : StF} (h : NamK kvs st) (x : Str) : (valV kvs (.inr x)).isSome = hasN st x := by
  unfold valV hasN
  rw [Option.isSome_map]
  have : ∀ (kvs : List (L2.Key × V)) (st : StF), kvs.map (·.1) = st.map (fun e => (.inr e.1 : L2.Key)) → (kvs.find? fun kv => decide (kv.1 = .inr x)).isSome = st.any fun e => decide (e.1 = x) := fun kvs => by
    induction kvs with
    | nil =>
      intro st e
      cases st with
      | nil => rfl
      | cons => cases e
    | cons a r ih =>
      intro st e
      cases st with
      | nil => cases e
      | cons b t =>
        obtain ⟨e1, e2⟩ := List.cons.inj e
        have e1 : a.1 = .inr b.1 := e1
        rw [List.find?_cons, List.any_cons, ← ih t e2]
        by_cases c : b.1 = x
        · rw [decide_eq_true (show a.1 = .inr x by rw [e1, c]), decide_eq_true c]
          rfl
        · rw [decide_eq_false (show ¬ a.1 = .inr x from fun z => c (Sum.inr.inj (e1.symm.trans z))), decide_eq_false c]
          rfl
  exact this kvs st h
def spWordOf : Sp := fun vs H Q _ => ∃ (D S : Addr) (d : Deed) (kvs : List (L2.Key × V)) (st : StF), vs = [.ref D, .ref S] ∧ DeedAt H D d ∧ H S = some (.dK kvs) ∧ NamK kvs st ∧ Q (.str (wdF d st)) H
abbrev sWordOf : Stmt := topS 25
theorem scWordOf : FnScope ["deed", "packed", "name"] ["deed", "packed"] (defScope sWordOf) := ⟨rfl, rfl, rfl, by decide +kernel, rfl, by decide +kernel, by decide +kernel⟩
section
variable {K : PySem.W.Frag} {mg : Str → Option Value} {P : Program} {w : World} {base : Heap} {dN : Addr} (kN : KNames K w dN)
include kN
theorem ok_WordOf {f : Addr} {fd : FuncData} (F : Fun K "word_of" "word_of" sWordOf f fd) (c_NAME_AT : ∃ u, mg "NAME_AT" = some u ∧ RelV (.ref dN) u) (c_DONE : ∃ u, mg "DONE" = some u ∧ RelV (.str "done") u) : FnOk P w K mg base CX0 1 f fd ["deed", "packed"] spWordOf := by
  refine F.ok scWordOf (fun vs H Q E h => ?_) (fun cdv A outer s H vs Q E hr h => ?_)
  · obtain ⟨D, S, d, kvs, st, rfl, _⟩ := h
    rfl
  · obtain ⟨D, S, d, kvs, st, rfl, eD, eS, hN, q⟩ := h
    refine ⟨_, pss_cons (ps_set (i := 2) scWordOf.nd rfl (.inl rfl) (pe_ix ix_tup (pv 0) (pe_ix ix_kdict (C8.pe_gc (by rfl) c_NAME_AT) (pe_ix ix_tup (pv 0) pe_int (fun _ _ => rfl)) (fun _ _ => rfl)) (fun _ _ => rfl)))
      (pss_cons (ps_if (pt_cmpR op_eq (pe_ix ix_tup (pv 0) pe_int (fun _ _ => rfl)) pe_str (nomark _)) (pss_one (ps_ret (pe_ifExp (pt_cmp (pc_din (hu_of hr) (pv 2) (pv 1))) pe_str (C8.pe_gc (by rfl) c_DONE))))
        pss_nil)
      (pss_cons (ps_if (pt_cmp (pc_dnotin (hu_of hr) (pv 2) (pv 1))) (pss_one (ps_ret pe_str))
        pss_nil)
      (pss_one (ps_ret (pe_ifExp (PW.pt (pw_and (pt_cmpR op_eq (pe_ix ix_tup (pv 0) pe_int (fun _ _ => rfl)) pe_str (nomark _)) (pw_and1 (pt_cmpR op_eq (pe_ix ix_tup (pv 0) pe_int (fun _ _ => rfl)) (pe_ix ix_tup (pv 0) pe_int (fun _ _ => rfl)) (nomark _))))) pe_str (C8.pe_gc (by rfl) c_DONE)))))), ?_⟩
    obtain ⟨xs, et, e0, e1⟩ := eD.tup
    refine ⟨_, rfl, _, rfl, D, xs, 0, _, rfl, rfl, .inl (.inl et), e0, dN, _, _, rfl, rfl, kN.get d, D, xs, _, _, rfl, rfl, .inl (.inl et), e1, ?_⟩
    have hin : DGet H S (.str d.nam) (valV kvs (.inr d.nam)) := .inl ⟨kvs, .inr d.nam, .inl eS, rfl, rfl⟩
    have his := valK_is hN d.nam
    cases d with
    | pack n m x =>
      refine ⟨_, rfl, D, xs, 0, _, rfl, rfl, .inl (.inl et), e0, rfl, _, rfl, ?_⟩
      rw [decide_eq_true (show V.str (Deed.pack n m x).kind = V.str "pack" from rfl)]
      have q : Q (.str (if hasN st n = true then "packed" else "done")) H := q
      refine iteT ⟨_, rfl, _, rfl, S, _, rfl, hin, _, rfl, ite2 (fun c => ?_) (fun c => ?_)⟩
      · have c : hasN st n = true := his.symm.trans c
        rw [c] at q
        exact q
      · have c : hasN st n = false := his.symm.trans (by simpa using c)
        rw [c] at q
        exact q
    | lade o t n a b =>
      refine ⟨_, rfl, D, xs, 0, _, rfl, rfl, .inl (.inl et), e0, rfl, _, rfl, ?_⟩
      rw [decide_eq_false (show ¬ (V.str (Deed.lade o t n a b).kind = V.str "pack") from fun z => absurd (V.str.inj z) (by show ¬ (("lade" : Str) = "pack"); decide +kernel))]
      refine iteF ⟨_, rfl, _, rfl, S, _, rfl, hin, _, rfl, ite2 (fun c => ?_) (fun c => ?_)⟩
      · have c : hasN st n = false := his.symm.trans (by simpa using c)
        have q : Q (.str (if hasN st n = true then (if o = t then "same" else "done") else "strange")) H := q
        rw [c] at q
        exact q
      have c : hasN st n = true := his.symm.trans (Option.isSome_iff_ne_none.mpr (by simpa using c))
      have q : Q (.str (if hasN st n = true then (if o = t then "same" else "done") else "strange")) H := q
      rw [c, if_pos rfl] at q
      have eD : H D = some (.tup [.str "lade", .str o, .str t, .str n, .int a, .int b]) := eD
      refine ⟨_, rfl, D, xs, 0, _, rfl, rfl, .inl (.inl et), e0, rfl, _, rfl, ?_⟩
      rw [decide_eq_true (show V.str (Deed.lade o t n a b).kind = V.str "lade" from rfl)]
      refine iteT ⟨_, rfl, D, _, 1, _, rfl, rfl, .inl (.inl eD), atI_nat (j := 1) rfl, _, rfl, D, _, 2, _, rfl, rfl, .inl (.inl eD), atI_nat (j := 2) rfl, rfl, _, rfl, ite2 (fun c => ?_) (fun c => ?_)⟩
      · rw [if_pos (V.str.inj (of_decide_eq_true c))] at q
        exact q
      · rw [if_neg (fun z => c (decide_eq_true (congrArg V.str z)))] at q
        exact q
    | sell x n a b =>
      refine ⟨_, rfl, D, xs, 0, _, rfl, rfl, .inl (.inl et), e0, rfl, _, rfl, ?_⟩
      rw [decide_eq_false (show ¬ (V.str (Deed.sell x n a b).kind = V.str "pack") from fun z => absurd (V.str.inj z) (by show ¬ (("sell" : Str) = "pack"); decide +kernel))]
      refine iteF ⟨_, rfl, _, rfl, S, _, rfl, hin, _, rfl, ite2 (fun c => ?_) (fun c => ?_)⟩
      · have c : hasN st n = false := his.symm.trans (by simpa using c)
        have q : Q (.str (if hasN st n = true then "done" else "strange")) H := q
        rw [c] at q
        exact q
      have c : hasN st n = true := his.symm.trans (Option.isSome_iff_ne_none.mpr (by simpa using c))
      have q : Q (.str (if hasN st n = true then "done" else "strange")) H := q
      rw [c, if_pos rfl] at q
      refine ⟨_, rfl, D, xs, 0, _, rfl, rfl, .inl (.inl et), e0, rfl, _, rfl, ?_⟩
      rw [decide_eq_false (show ¬ (V.str (Deed.sell x n a b).kind = V.str "lade") from fun z => absurd (V.str.inj z) (by show ¬ (("sell" : Str) = "lade"); decide +kernel))]
      exact iteF q
    | back x n a b =>
      refine ⟨_, rfl, D, xs, 0, _, rfl, rfl, .inl (.inl et), e0, rfl, _, rfl, ?_⟩
      rw [decide_eq_false (show ¬ (V.str (Deed.back x n a b).kind = V.str "pack") from fun z => absurd (V.str.inj z) (by show ¬ (("back" : Str) = "pack"); decide +kernel))]
      refine iteF ⟨_, rfl, _, rfl, S, _, rfl, hin, _, rfl, ite2 (fun c => ?_) (fun c => ?_)⟩
      · have c : hasN st n = false := his.symm.trans (by simpa using c)
        have q : Q (.str (if hasN st n = true then "done" else "strange")) H := q
        rw [c] at q
        exact q
      have c : hasN st n = true := his.symm.trans (Option.isSome_iff_ne_none.mpr (by simpa using c))
      have q : Q (.str (if hasN st n = true then "done" else "strange")) H := q
      rw [c, if_pos rfl] at q
      refine ⟨_, rfl, D, xs, 0, _, rfl, rfl, .inl (.inl et), e0, rfl, _, rfl, ?_⟩
      rw [decide_eq_false (show ¬ (V.str (Deed.back x n a b).kind = V.str "lade") from fun z => absurd (V.str.inj z) (by show ¬ (("back" : Str) = "lade"); decide +kernel))]
      exact iteF q
    | tell x n t =>
      refine ⟨_, rfl, D, xs, 0, _, rfl, rfl, .inl (.inl et), e0, rfl, _, rfl, ?_⟩
      rw [decide_eq_false (show ¬ (V.str (Deed.tell x n t).kind = V.str "pack") from fun z => absurd (V.str.inj z) (by show ¬ (("tell" : Str) = "pack"); decide +kernel))]
      refine iteF ⟨_, rfl, _, rfl, S, _, rfl, hin, _, rfl, ite2 (fun c => ?_) (fun c => ?_)⟩
      · have c : hasN st n = false := his.symm.trans (by simpa using c)
        have q : Q (.str (if hasN st n = true then "done" else "strange")) H := q
        rw [c] at q
        exact q
      have c : hasN st n = true := his.symm.trans (Option.isSome_iff_ne_none.mpr (by simpa using c))
      have q : Q (.str (if hasN st n = true then "done" else "strange")) H := q
      rw [c, if_pos rfl] at q
      refine ⟨_, rfl, D, xs, 0, _, rfl, rfl, .inl (.inl et), e0, rfl, _, rfl, ?_⟩
      rw [decide_eq_false (show ¬ (V.str (Deed.tell x n t).kind = V.str "lade") from fun z => absurd (V.str.inj z) (by show ¬ (("tell" : Str) = "lade"); decide +kernel))]
      exact iteF q
end

/-! ### do_tell -/
open Classical in
/-- what lacked by these pages and is told is taken away -/
noncomputable def lkW (W : Whr) (ks : List Int) (p : Int → Prop) : Whr := fun n => if (∃ k ∈ ks, W n = some (.lk k)) ∧ p n then none else W n
theorem lkW_nil {W : Whr} {p : Int → Prop} : lkW W [] p = W := by
  funext n
  unfold lkW
  rw [if_neg (fun ⟨⟨k, hk, _⟩, _⟩ => nomatch hk)]
theorem lkW_snoc {W : Whr} {ks : List Int} {k : Int} {p : Int → Prop} : rmW (lkW W ks p) (.lk k) p = lkW W (ks ++ [k]) p := by
  funext n
  unfold rmW lkW
  by_cases c : (∃ k ∈ ks, W n = some (.lk k)) ∧ p n
  · rw [if_pos c, if_neg (fun z => nomatch z.1)]
    obtain ⟨⟨k', hk, e⟩, hp⟩ := c
    rw [if_pos ⟨⟨k', List.mem_append_left _ hk, e⟩, hp⟩]
  · rw [if_neg c]
    by_cases y : W n = some (.lk k) ∧ p n
    · rw [if_pos y, if_pos ⟨⟨k, List.mem_append_right _ (List.mem_singleton.mpr rfl), y.1⟩, y.2⟩]
    · have z : ¬ ((∃ k' ∈ ks ++ [k], W n = some (.lk k')) ∧ p n) := fun ⟨⟨k', hk, e⟩, hp⟩ => by
        rcases List.mem_append.mp hk with z | z
        · exact c ⟨⟨k', z, e⟩, hp⟩
        · rw [List.mem_singleton.mp z] at e
          exact y ⟨e, hp⟩
      rw [if_neg y, if_neg z]
theorem lkW_other {W : Whr} {ks : List Int} {p : Int → Prop} {n : Int} {h : Str} : lkW W ks p n = some (.ly h) ↔ W n = some (.ly h) := by
  unfold lkW
  by_cases c : (∃ k ∈ ks, W n = some (.lk k)) ∧ p n
  · rw [if_pos c]
    obtain ⟨⟨k, _, e⟩, _⟩ := c
    rw [e]
    exact ⟨(fun z => nomatch z), fun z => nomatch z⟩
  · rw [if_neg c]
def LkP (W : Whr) (ks : List Int) (p : Int → Prop) : Int → Prop := fun n => (∃ k ∈ ks, W n = some (.lk k)) ∧ p n
theorem LkP.ch {E : List Int} {W : Whr} (h : ChW E W) {ks : List Int} {p : Int → Prop} (hp : ChP E p) : ChP E (LkP W ks p) := fun n hn => by
  unfold LkP
  rw [h n hn, propext (hp n hn)]
theorem lkW_at {W : Whr} {ks : List Int} {p : Int → Prop} {n : Int} {sp : Spt} : lkW W ks p n = some sp ↔ W n = some sp ∧ ¬ LkP W ks p n := by
  unfold lkW LkP
  by_cases c : (∃ k ∈ ks, W n = some (.lk k)) ∧ p n
  · rw [if_pos c]
    exact ⟨(fun z => nomatch z), fun z => absurd c z.2⟩
  · rw [if_neg c]
    exact ⟨fun z => ⟨z, c⟩, fun z => z.1⟩
theorem lkP_snoc {W : Whr} {ks : List Int} {k : Int} {p : Int → Prop} {n : Int} : LkP W (ks ++ [k]) p n ↔ LkP W ks p n ∨ (lkW W ks p n = some (.lk k) ∧ p n) := by
  rw [lkW_at]
  constructor
  · rintro ⟨⟨k', hk, e⟩, hp⟩
    rcases List.mem_append.mp hk with z | z
    · exact .inl ⟨⟨k', z, e⟩, hp⟩
    · rw [List.mem_singleton.mp z] at e
      by_cases c : LkP W ks p n
      · exact .inl c
      · exact .inr ⟨⟨e, c⟩, hp⟩
  · rintro (⟨⟨k', hk, e⟩, hp⟩ | ⟨⟨e, _⟩, hp⟩)
    · exact ⟨⟨k', List.mem_append_left _ hk, e⟩, hp⟩
    · exact ⟨⟨k, List.mem_append_right _ (List.mem_singleton.mpr rfl), e⟩, hp⟩
/-- spots of what lacks, by their keys -/
def LkL (SP : List Spt) (H : Hp) (zs : List V) (ks : List Int) : Prop := zs.length = ks.length ∧ ∀ (i : Nat) v k, zs[i]? = some v → ks[i]? = some k → ∃ q, v = .ref q ∧ H q = some (.tup ((keyOf (.lk k)).map kV)) ∧ .lk k ∈ SP
theorem LkL.kpl {SP : List Spt} {H H' : Hp} {zs : List V} {ks : List Int} (h : LkL SP H zs ks) (k : KpL H H') : LkL SP H' zs ks := ⟨h.1, fun i v x e1 e2 => let ⟨q, a, b, c⟩ := h.2 i v x e1 e2; ⟨q, a, k.t _ _ b, c⟩⟩
theorem LkL.tupU {SP : List Spt} {H : Hp} {zs : List V} {ks : List Int} {l : Addr} {o : HO} (h : LkL SP H zs ks) {xs : List V} (e : H l = some (.lst xs)) : LkL SP (upd H l o) zs ks := ⟨h.1, fun i v x e1 e2 => let ⟨q, a, b, c⟩ := h.2 i v x e1 e2; ⟨q, a, by rw [upd_ne (ne_of b e (fun z => nomatch z))]; exact b, c⟩⟩
theorem LkL.snoc {SP : List Spt} {H : Hp} {zs : List V} {ks : List Int} {q : Addr} {k : Int} (h : LkL SP H zs ks) (e : H q = some (.tup ((keyOf (.lk k)).map kV))) (hk : .lk k ∈ SP) : LkL SP H (zs ++ [.ref q]) (ks ++ [k]) := by
  refine ⟨by rw [List.length_append, List.length_append, h.1]; rfl, fun i v x e1 e2 => ?_⟩
  by_cases c : i < zs.length
  · rw [List.getElem?_append_left c] at e1
    rw [List.getElem?_append_left (by rw [← h.1]; exact c)] at e2
    exact h.2 i v x e1 e2
  · rw [List.getElem?_append_right (by omega)] at e1
    rw [List.getElem?_append_right (by rw [← h.1]; omega), ← h.1] at e2
    have i0 : i - zs.length = 0 := by
      have := (List.getElem?_eq_some_iff.mp e1).1
      simp at this
      omega
    rw [i0] at e1 e2
    cases e1
    cases e2
    exact ⟨q, rfl, e, hk⟩
theorem lk_ne {x : Str} (h : x = "lacking") {sp : Spt} (e : wdOf sp = x) : ∃ k, sp = .lk k := by
  subst h
  cases sp with
  | lk k => exact ⟨k, rfl⟩
  | ly a => exact absurd e (by show ¬ (("lying" : Str) = "lacking"); decide +kernel)
  | sold => exact absurd e (by show ¬ (("sold" : Str) = "lacking"); decide +kernel)
  | back => exact absurd e (by show ¬ (("back" : Str) = "lacking"); decide +kernel)
theorem lk_entry {SP : List Spt} {cs : List Addr} {H : Hp} {kvs : List (List L2.Key × V)} {W : Whr} (h : StoK SP cs H kvs W) {j : Nat} {k : List L2.Key} {v : V} (e : kvs[j]? = some (k, v)) : ∃ sp ∈ SP, k = keyOf sp ∧ atI (k.map kV) 0 = some (.str (wdOf sp)) := by
  obtain ⟨sp, _, _, h1, h2, _⟩ := h.ent _ (List.mem_of_getElem? e)
  have h2 : k = keyOf sp := h2
  refine ⟨sp, h1, h2, ?_⟩
  rw [h2]
  cases sp <;> exact atI_nat (j := 0) rfl
theorem te_eq {W : Whr} {h : Str} {num : Int} {ks : List Int} {p : Int → Prop} (hks : ∀ n k, W n = some (.lk k) → k ∈ ks) : ptW (caW (lkW W ks p) h (.lk num) fun n => W n = some (.ly h) ∧ ¬ p n) (.ly h) (LkP W ks p) = teW W h num p := by
  funext n
  unfold ptW teW
  by_cases c : LkP W ks p n
  · rw [if_pos c, if_pos (show FndP W p n from ⟨let ⟨k, _, e⟩ := c.1; ⟨k, e⟩, c.2⟩)]
  · have c' : ¬ FndP W p n := fun ⟨⟨k, e⟩, hp⟩ => c ⟨⟨k, hks n k e, e⟩, hp⟩
    rw [if_neg c, if_neg c']
    unfold caW
    have e1 : lkW W ks p n = W n := by
      unfold lkW
      rw [if_neg (show ¬ ((∃ k ∈ ks, W n = some (.lk k)) ∧ p n) from c)]
    rw [e1]
    by_cases y : W n = some (.ly h) ∧ ¬ p n
    · rw [if_pos y, if_pos ⟨y.1, y⟩]
    · rw [if_neg y, if_neg fun z => y z.2]
abbrev sDoTell : Stmt := topS 23
theorem scDoTell : FnScope ["store", "number", "deed", "holder", "told", "there", "spot", "lacking_spots", "found", "untold", "short"] ["store", "number", "deed"] (defScope sDoTell) := ⟨rfl, rfl, rfl, by decide +kernel, rfl, by decide +kernel, by decide +kernel⟩
section
variable {K : PySem.W.Frag} {mg : Str → Option Value} {P : Program} {w : World} {base : Heap}
theorem ok_DoTell {f : Addr} {fd : FuncData} (F : Fun K "do_tell" "do_tell" sDoTell f fd) (C_either : Cal P w K mg base 2 "either" ["one", "other"] (spEither K)) (C_take : Cal P w K mg base 4 "take" ["store", "spot", "asked"] (spTakeS K)) (C_without : Cal P w K mg base 3 "without" ["one", "other"] (spWithout K)) (C_carry : Cal P w K mg base 5 "carry" ["store", "holder", "goal", "asked"] (spCarry K)) (C_lay : Cal P w K mg base 3 "lay" ["store", "spot", "cases"] (spLay K)) (c_LYING : ∃ u, mg "LYING" = some u ∧ RelV (.str "lying") u) (c_LACKING : ∃ u, mg "LACKING" = some u ∧ RelV (.str "lacking") u) : FnOk P w K mg base CX0 6 f fd ["store", "number", "deed"] (spDo isTell) := by
  refine F.ok scDoTell (fun vs H Q E h => ?_) (fun cdv A outer s H vs Q E hr h => ?_)
  · obtain ⟨s, D, num, d, E, SP, cs, W, rfl, _⟩ := h
    rfl
  · obtain ⟨s, D, num, d, E, SP, cs, W, rfl, hd, eD, hf, hS, hW, q⟩ := h
    refine ⟨_, pss_cons (ps_par rfl scDoTell.nd (i := 3) (j := 4) rfl rfl (by decide) rfl rfl (pa_cons (pe_ix ix_tup (pv 2) pe_int (fun _ _ => rfl)) (pa_cons (pe_ix ix_tup (pv 2) pe_int (fun _ _ => rfl)) pa_nil)) (by rfl))
      (pss_cons (ps_set (i := 5) scDoTell.nd rfl (.inl rfl) (pe_dget2 (hu_of hr) (pv 0) (pe_tup (pa_cons (C8.pe_gc (by rfl) c_LYING) (pa_cons (pv 3) pa_nil))) (pe_lst pa_nil) ⟨rfl, rfl, rfl, rfl⟩))
      (pss_cons (ps_lock (ps_setLc (i := 7) (own := [("spot", 6)]) (g := (gName 6)) (tt := (tTest (tOp (rEq) (tOp (rIxT K) (tVar 6) (tC (.int 0))) (tC (.str "lacking"))))) (te := (tVar 6)) rfl scDoTell.nd rfl rfl (sw_true rfl rfl rfl (by decide +kernel)) (pi_keys (pv 0)) (blkOk_by (own := [("spot", 6)]) (N := ["store", "number", "deed", "holder", "told", "there", "spot", "lacking_spots", "found", "untold", "short"]) (sc := defScope sDoTell) (by decide +kernel)) (fun _ _ _ _ _ => (pg_name (i := 6) scDoTell.nd rfl (.inl rfl))) (fun _ _ _ _ _ => (pts_one (pt_cmpR op_eq (pe_ix ix_tup (pv 6) pe_int (fun _ _ => rfl)) (C8.pe_gc (by rfl) c_LACKING) (nomark _)))) (fun _ _ _ _ _ => (pv 6))))
      (pss_cons (ps_set (i := 8) scDoTell.nd rfl (.inl rfl) (pe_lst pa_nil))
      (pss_cons (ps_for PassesOwn.never rfl (pi_list (pv 7)) (pg_name (i := 6) scDoTell.nd rfl (.inl rfl))
        (pss_one (ps_set (i := 8) scDoTell.nd rfl (.inl rfl) (pe_own C_either (hr.mono (show 2 ≤ 5 by decide)) (by rfl) (pa_cons (pv 8) (pa_cons (pe_own C_take (hr.mono (show 4 ≤ 5 by decide)) (by rfl) (pa_cons (pv 0) (pa_cons (pv 6) (pa_cons (pv 4) pa_nil)))) pa_nil))))))
      (pss_cons (ps_set (i := 9) scDoTell.nd rfl (.inl rfl) (pe_own C_without (hr.mono (show 3 ≤ 5 by decide)) (by rfl) (pa_cons (pv 5) (pa_cons (pv 4) pa_nil))))
      (pss_cons (ps_expr (pe_own C_carry hr (by rfl) (pa_cons (pv 0) (pa_cons (pv 3) (pa_cons (pe_tup (pa_cons (C8.pe_gc (by rfl) c_LACKING) (pa_cons (pv 1) pa_nil))) (pa_cons (pv 9) pa_nil))))))
      (pss_cons (ps_expr (pe_own C_lay (hr.mono (show 3 ≤ 5 by decide)) (by rfl) (pa_cons (pv 0) (pa_cons (pe_tup (pa_cons (C8.pe_gc (by rfl) c_LYING) (pa_cons (pv 3) pa_nil))) (pa_cons (pv 8) pa_nil)))))
      (pss_cons (ps_set (i := 10) scDoTell.nd rfl (.inl rfl) (pe_own C_without (hr.mono (show 3 ≤ 5 by decide)) (by rfl) (pa_cons (pe_own C_without (hr.mono (show 3 ≤ 5 by decide)) (by rfl) (pa_cons (pv 4) (pa_cons (pv 5) pa_nil))) (pa_cons (pv 8) pa_nil))))
      (pss_one (ps_ret (pe_tup (pa_cons (pv 10) (pa_cons (pe_lst (pa_cons (pe_tup (pa_cons (C8.pe_gc (by rfl) c_LACKING) (pa_cons (pv 3) (pa_cons (pv 9) pa_nil)))) (pa_cons (pe_tup (pa_cons pe_str (pa_cons (pv 3) (pa_cons (pv 8) pa_nil)))) pa_nil))) pa_nil))))))))))))), ?_⟩
    cases d with
    | tell h n t =>
      obtain ⟨hr0, hcp, hh, hlk⟩ := hf
      obtain ⟨c, eD, hc⟩ : ∃ c, H D = some (.tup [.str "tell", .str h, .str n, .ref c]) ∧ PrH H c t := eD
      have h300 := hS.el
      have htl := hcp.few (Told.of hr0.choose_spec)
      refine ⟨_, rfl, D, _, 1, _, rfl, rfl, .inl (.inl eD), atI_nat (j := 1) rfl, _, rfl, D, _, 3, _, rfl, rfl, .inl (.inl eD), atI_nat (j := 3) rfl, _, _, rfl, ?_⟩
      -- there
      obtain ⟨kvs, es, hk⟩ := hS.at_
      refine ⟨_, rfl, s, rfl, .inr ⟨kvs, .inl es⟩, _, rfl, (by show 2 ≤ sizeLine; decide), fun b nb => ⟨Nat.zero_le _, fun z nz => ?_⟩⟩
      have sb := same_upd (o := .tup [V.str "lying", .str h]) nb
      have sz := same_upd (o := .lst []) nz
      have S1 := sb.trans sz
      obtain ⟨l0, rs0, eg, h0, ht0⟩ := (hk.kpl (KpL.same S1)).get (.ly h) (upd_same (a := z) (o := .lst []))
      refine ⟨_, DGet.t (k := keyOf (.ly h)) (S1 _ _ es) (sz _ _ upd_same), ?_⟩
      rw [eg]
      have hl0 := (hS.ch.set (.ly h)).few ht0
      revert S1 h0
      generalize upd (upd H b (.tup [V.str "lying", .str h])) z (.lst []) = H1
      intro S1 h0
      have es1 := S1 _ _ es
      have hk1 := hk.kpl (KpL.same S1)
      have hkl := hk.len
      have h1000 := hS.sl
      -- the spots of what lacks
      refine ⟨s, _, es1, True.intro, fun od => ⟨_, rfl, s, od, rfl, .inr ⟨kvs, upd_same, fun L nL => ?_⟩⟩⟩
      have eLs : L ≠ s := fun y => by rw [y, upd_same] at nL; cases nL
      refine lc_it walk_keysT (fun j H' => Same (upd H1 s (.frz od (.dT kvs))) H' ∧ ∃ zs ks, H' L = some (.lst zs) ∧ LkL SP H' zs ks ∧ zs.length ≤ j ∧ ∀ e ∈ kvs.take j, ∀ k, e.1 = keyOf (.lk k) → k ∈ ks) ⟨same_upd nL, [], [], upd_same, ⟨rfl, fun i v k e => nomatch e⟩, Nat.le_refl _, fun e he => nomatch he⟩ (fun j H' hj hP => hP.1 _ _ upd_same) (fun j x H' H'' hj hP hy => ?_) (fun H' hP => ?_)
      · obtain ⟨sm, zs, ks, eL, hz, hzl, hall⟩ := hP
        obtain ⟨rfl, key, v, q0, ek, rfl, eq⟩ := hy
        obtain ⟨sp, hsp, e2, e0⟩ := lk_entry hk ek
        have etk : kvs.take (j + 1) = kvs.take j ++ [(key, v)] := by rw [List.take_add_one, ek]; rfl
        refine ⟨rfl, _, rfl, q0, _, 0, _, rfl, rfl, .inl (.inl eq), e0, rfl, _, rfl, ite2 (fun cc => ?_) (fun cc => ?_)⟩
        · obtain ⟨k, rfl⟩ := lk_ne rfl (V.str.inj (of_decide_eq_true cc))
          rw [e2] at eq
          refine ⟨_, rfl, zs, eL, by rw [sizeLine_eq]; omega, fun a o ea => ?_, zs ++ [.ref q0], ks ++ [k], upd_same, (hz.snoc eq hsp).tupU eL, by rw [List.length_append]; show zs.length + 1 ≤ j + 1; omega, fun e he k' ek' => ?_⟩
          · rw [upd_ne (ne_of_none ea nL)]
            exact sm _ _ ea
          · rw [etk] at he
            rcases List.mem_append.mp he with y | y
            · exact List.mem_append_left _ (hall e y k' ek')
            · rw [List.mem_singleton.mp y] at ek'
              have := keyOf_inj (e2.symm.trans ek')
              cases this
              exact List.mem_append_right _ (List.mem_singleton.mpr rfl)
        · refine ⟨sm, zs, ks, eL, hz, by omega, fun e he k' ek' => ?_⟩
          rw [etk] at he
          rcases List.mem_append.mp he with y | y
          · exact hall e y k' ek'
          · rw [List.mem_singleton.mp y] at ek'
            have := keyOf_inj (e2.symm.trans ek')
            subst this
            exact absurd (decide_eq_true rfl) cc
      obtain ⟨sm, zs, ks, eL, hz, hzl, hall⟩ := hP
      rw [List.take_length] at hall
      have hks : ∀ n k, W n = some (.lk k) → k ∈ ks := fun n k e => by
        obtain ⟨x, hx, ex⟩ := hk.all n _ e
        exact hall x hx k ex
      refine ⟨sm _ _ upd_same, ?_⟩
      have sU : Same H1 (upd H' s (.dT kvs)) := fun a o ea => by
        by_cases y : a = s
        · rw [y, upd_same]
          rw [y, es1] at ea
          exact ea
        · rw [upd_ne y]
          exact sm _ _ (by rw [upd_ne y]; exact ea)
      have eLU : upd H' s (.dT kvs) L = some (.lst zs) := by rw [upd_ne eLs]; exact eL
      have hzU : LkL SP (upd H' s (.dT kvs)) zs ks := ⟨hz.1, fun i v k e1 e2 => let ⟨q, a, b, c⟩ := hz.2 i v k e1 e2; ⟨q, a, by
        have : q ≠ s := fun y => by rw [y, sm _ _ upd_same] at b; cases b
        rw [upd_ne this]; exact b, c⟩⟩
      revert sU eLU hzU
      generalize upd H' s (.dT kvs) = H2
      intro sU eLU hzU
      have S2 := S1.trans sU
      -- found
      refine ⟨Nat.zero_le _, fun F nF => ?_⟩
      have sF := same_upd (o := .lst []) nF
      have eF := upd_same (H := H2) (a := F) (o := .lst [])
      revert sF eF
      generalize upd H2 F (.lst []) = H3
      intro sF eF
      have S3 := S2.trans sF
      have hz3 := hzU.kpl (KpL.same sF)
      have eL3 := sF _ _ eLU
      have hc3 := hc.kpl (KpL.same S3)
      have h03 := (h0.kpl (KpL.same sU)).kpl (KpL.same sF)
      have hS3 := hS.same S3
      have es3 := S3 _ _ es
      refine ⟨_, rfl, L, rfl, ⟨_, SqL.of eL3⟩, for_list (xs := zs) (fun i σ Hx => ∃ (F' : Addr) (rsF : Prs2) (y6 : Option V), H F' = none ∧ σ = [some (.ref s), some (.int num), some (.ref D), some (.str h), some (.ref c), some (.ref l0), y6, some (.ref L), some (.ref F'), none, none] ∧ ButS s H3 Hx ∧ Sto E SP cs Hx s (lkW W (ks.take i) (InS t)) ∧ LsA Hx F' rsF ∧ Told (LkP W (ks.take i) (InS t)) rsF) ⟨F, [], _, S2.free nF, rfl, ButS.refl _ _, by rw [List.take_zero, lkW_nil]; exact hS3, ⟨[], eF, Prs.nil⟩, ⟨0, True.intro⟩, fun n => ⟨fun y => absurd y inS_nil, fun ⟨⟨k, hk, _⟩, _⟩ => nomatch hk⟩⟩ (fun i σ Hx _ hP => ?_) (fun i x σ Hx hx hP => ?_) (fun σ Hx hP => ?_)⟩
      · obtain ⟨F', rsF, y6, _, rfl, bx, _⟩ := hP
        exact SqL.of (bx _ _ (ne_of eL3 es3 (fun z => nomatch z)) eL3)
      · obtain ⟨F', rsF, y6, nF', rfl, bx, hSx, hF, htF⟩ := hP
        have kx := bx.kpl es3
        have hi : i < ks.length := by rw [← hz.1]; exact (List.getElem?_eq_some_iff.mp hx).1
        have ek : ks[i]? = some ks[i] := List.getElem?_eq_getElem hi
        obtain ⟨q0, rfl, eq, hsp⟩ := (hz3.kpl kx).2 i x _ hx ek
        have et : ks.take (i + 1) = ks.take i ++ [ks[i]] := by rw [List.take_add_one, ek]; rfl
        refine ⟨_, rfl, _, rfl, _, rfl, _, rfl, s, q0, c, E, SP, cs, _, .lk ks[i], t, rfl, hSx, hsp, eq, hc3.kpl kx, hr0, hcp, fun l rs H4 nl hl ht b4 hS4 => ?_⟩
        have k4 := hSx.kpl b4
        have hlF := (LkP.ch hS.ch hcp).few htF
        have hlr := ((hSx.ch.set (.lk ks[i])).and hcp).few ht
        refine ⟨F', l, rsF, rs, rfl, (hF.kpl k4).prh.pr, hl.prh.pr, by omega, fun l2 rs2 H5 nl2 hl2 ht2 _ s5 => ?_⟩
        refine ⟨l2, rs2, _, hS4.free (((ButS.same S3).trans bx).trans b4) nl2, rfl, (bx.trans b4).trans (ButS.same s5), ?_, hl2, ht2.cong fun n => ?_⟩
        · rw [et, ← lkW_snoc]
          exact hS4.same s5
        · show InS rsF n ∨ InS rs n ↔ _
          rw [et, lkP_snoc, htF.same, ht.same]
      obtain ⟨F', rsF, y6, nF', rfl, bx, hSx, hF, htF⟩ := hP
      rw [hz.1, List.take_length] at hSx htF
      have kx := bx.kpl es3
      have hlF := (LkP.ch hS.ch hcp).few htF
      -- what is not told
      refine ⟨_, rfl, _, rfl, l0, c, rs0, t, rfl, (h03.kpl kx).prh.pr, (hc3.kpl kx).pr, ht0.ris, hr0, by omega, fun lU rsU H4 nlU hlU htU _ s4 => ?_⟩
      have eU : InS rsU = fun n => W n = some (.ly h) ∧ ¬ InS t n := funext fun n => propext ((htU.same n).trans (and_congr (ht0.same n) Iff.rfl))
      have hchU : ChP E (InS rsU) := by rw [eU]; exact (hS.ch.set (.ly h)).and hcp.not
      have hlU2 := hchU.few (Told.of htU.ris.choose_spec)
      refine ⟨_, rfl, _, rfl, _, rfl, (by show 2 ≤ sizeLine; decide), fun g ng => ?_⟩
      have sg := same_upd (o := .tup [V.str "lacking", .int num]) ng
      have eg := upd_same (H := H4) (a := g) (o := .tup [V.str "lacking", .int num])
      revert sg eg
      generalize upd H4 g (.tup [V.str "lacking", .int num]) = H5
      intro sg eg
      have hS5 := hSx.same (s4.trans sg)
      refine ⟨_, rfl, s, g, lU, h, E, SP, cs, _, .lk num, rsU, rfl, hS5, hh, hlk, eg, (hlU.same sg).prh, htU.ris, hchU, fun T1 l1 l2 rs1 rs2 H6 _ _ _ _ _ _ _ _ b6 hS6 => ?_⟩
      have k6 := hS5.kpl b6
      -- found is laid
      refine ⟨_, rfl, _, rfl, (by show 2 ≤ sizeLine; decide), fun g2 ng2 => ?_⟩
      have sg2 := same_upd (o := .tup [V.str "lying", .str h]) ng2
      have eg2 := upd_same (H := H6) (a := g2) (o := .tup [V.str "lying", .str h])
      revert sg2 eg2
      generalize upd H6 g2 (.tup [V.str "lying", .str h]) = H7
      intro sg2 eg2
      have hS7 := hS6.same sg2
      have eFn : InS rsF = LkP W ks (InS t) := funext fun n => propext (htF.same n)
      have hchF : ChP E (InS rsF) := by rw [eFn]; exact LkP.ch hS.ch hcp
      have hF7 := ((((hF.same s4).same sg).kpl k6).same sg2)
      refine ⟨_, rfl, s, g2, F', E, SP, cs, _, .ly h, rsF, rfl, hS7, hh, eg2, hF7.prh, htF.ris, hchF, fun n hn => ?_, fun H8 b8 hS8 => ?_⟩
      · have hn : LkP W ks (InS t) n := by rw [eFn] at hn; exact hn
        refine .inl ?_
        have e0 : lkW W ks (InS t) n = none := by
          unfold lkW
          rw [if_pos (show (∃ k ∈ ks, W n = some (.lk k)) ∧ InS t n from hn)]
        unfold caW
        rw [if_neg (fun z => by rw [e0] at z; exact nomatch z.1)]
        exact e0
      have k8 := hS7.kpl b8
      rw [eU, eFn, te_eq hks] at hS8
      have bB : ButS s H3 H8 := (((bx.trans (ButS.same (s4.trans sg))).trans b6).trans (ButS.same sg2)).trans b8
      have kB := bB.kpl es3
      have hF8 := hF7.kpl k8
      have hU8 := ((((hlU.same sg).kpl k6).same sg2).kpl k8)
      -- what is short
      refine ⟨_, rfl, _, rfl, c, l0, t, rs0, rfl, (hc3.kpl kB).pr, (h03.kpl kB).prh.pr, hr0, ht0.ris, by omega, fun lA rsA H9 nlA hlA htA hlAl s9 => ?_⟩
      have hlA2 := (hcp.and ((hS.ch.set (.ly h)).cong fun n => (ht0.same n).symm).not).few htA
      refine ⟨_, rfl, lA, F', rsA, rsF, rfl, hlA.prh.pr, (hF8.same s9).prh.pr, htA.ris, htF.ris, by omega, fun lS rsS H10 nlS hlS htS _ s10 => ?_⟩
      refine ⟨_, rfl, _, rfl, _, rfl, (by show 3 ≤ sizeLine; decide), fun T1 nT1 => ⟨_, rfl, _, rfl, (by show 3 ≤ sizeLine; decide), fun T2 nT2 => ⟨(by show 2 ≤ sizeLine; decide), fun l3 nl3 => ⟨(by show 2 ≤ sizeLine; decide), fun T nT => ?_⟩⟩⟩⟩
      have u1 := same_upd (o := .tup [V.str "lacking", .str h, .ref lU]) nT1
      have u2 := same_upd (o := .tup [V.str "found", .str h, .ref F']) nT2
      have u3 := same_upd (o := .lst [V.ref T1, .ref T2]) nl3
      have u4 := same_upd (o := .tup [V.ref lS, .ref l3]) nT
      have u14 := ((u1.trans u2).trans u3).trans u4
      have fr : ∀ {Hm : Hp}, Same H8 Hm → ∀ {p : Addr}, Hm p = none → H p = none := fun k _ n => (hS8.same k).free (((ButS.same S3).trans bB).trans (ButS.same k)) n
      have frU : H lU = none := hSx.free ((ButS.same S3).trans bx) nlU
      have bt : ButS s H _ := (((ButS.same S3).trans bB).trans (ButS.same (s9.trans s10))).trans (ButS.same u14)
      refine q T (.ref lS) (.ref l3) _ (fr (s9.trans (s10.trans ((u1.trans u2).trans u3))) nT) upd_same (fun cs hcs => ?_) bt (hS8.same (s9.trans (s10.trans u14)))
      have off : ∀ {p : Addr}, H p = none → p ∉ cs := fun n z => hcs _ z n
      have hT1 := thg_put (cs := cs) (upd_same (a := T1) (o := .tup [V.str "lacking", .str h, .ref lU])) (((hU8.same s9).same s10).same u1) (off frU)
      have hT2 := thg_put (cs := cs) (upd_same (a := T2) (o := .tup [V.str "found", .str h, .ref F'])) ((((hF8.same s9).same s10).same u1).same u2) (off nF')
      rw [(htU.cong fun n => (htU.same n).symm.trans (by rw [eU])).canon] at hT1
      rw [(htF.cong fun n => show _ ↔ FndP W (InS t) n from ⟨fun ⟨⟨k, _, e⟩, hp⟩ => ⟨⟨k, e⟩, hp⟩, fun ⟨⟨k, e⟩, hp⟩ => ⟨⟨k, hks n k e, e⟩, hp⟩⟩).canon] at hT2
      refine ⟨?_, (ThgL.cons (((hT1.same u2).same u3).same u4) (.one ((hT2.same u3).same u4))).lst (u4 _ _ upd_same) (off (fr (s9.trans (s10.trans (u1.trans u2))) nl3))⟩
      have := (hlS.same u14).thg (off (fr s9 nlS))
      rw [(htS.cong fun n => show _ ↔ (InS t n ∧ ¬ W n = some (.ly h)) ∧ ¬ FndP W (InS t) n by
        rw [htA.same, htF.same]
        refine and_congr (and_congr Iff.rfl (not_congr (ht0.same n))) (not_congr ⟨fun ⟨⟨k, _, e⟩, hp⟩ => ⟨⟨k, e⟩, hp⟩, fun ⟨⟨k, e⟩, hp⟩ => ⟨⟨k, hks n k e, e⟩, hp⟩⟩)).canon] at this
      exact this
    | pack => cases hd
    | lade => cases hd
    | sell => cases hd
    | back => cases hd
end

/-! ### gone_through -/
theorem _root_.TK.GX.NoTab.but {H H1 H2 : Hp} {a : Addr} (n : GX.NoTab H H1) (k : ButS a H1 H2) (e : H a = none) : GX.NoTab H H2 :=
  ⟨fun x o ex nt => k x o (fun z => by rw [z, e] at ex; cases ex) (n.keep x o ex nt), fun x ps ex => let ⟨qs, e1⟩ := n.tab x ps ex; ⟨qs, k _ _ (fun z => by rw [z, e] at ex; cases ex) e1⟩⟩
theorem _root_.TK.GX.TQ.butT {Ms : GX.Mq} {Xs : List Addr} {H H' : Hp} {a : Addr} {kvs : List (List L2.Key × V)} (h : GX.TQ Ms Xs H) (k : ButS a H H') (ea : H a = some (.dT kvs)) : GX.TQ Ms Xs H' :=
  h.keep (fun c ps hb => k _ _ (ne_of hb ea (fun z => nomatch z)) hb)
    (fun c c' P hb => k _ _ (ne_of hb ea (fun z => by unfold GX.CodeG at z; cases z)) hb)
    (fun c c' q hb => k _ _ (ne_of hb ea (fun z => by unfold LamX.CodeO at z; cases z)) hb)
theorem _root_.TK.GX.TQ.butK {Ms : GX.Mq} {Xs : List Addr} {H H' : Hp} {a : Addr} {kvs : List (L2.Key × V)} (h : GX.TQ Ms Xs H) (k : ButS a H H') (ea : H a = some (.dK kvs)) : GX.TQ Ms Xs H' :=
  h.keep (fun c ps hb => k _ _ (ne_of hb ea (fun z => nomatch z)) hb)
    (fun c c' P hb => k _ _ (ne_of hb ea (fun z => by unfold GX.CodeG at z; cases z)) hb)
    (fun c c' q hb => k _ _ (ne_of hb ea (fun z => by unfold LamX.CodeO at z; cases z)) hb)
theorem ButS.kplK {s : Addr} {H H' : Hp} {kvs : List (L2.Key × V)} (k : ButS s H H') (e : H s = some (.dK kvs)) : KpL H H' :=
  ⟨fun a _ ea => k a _ (ne_of ea e (fun z => nomatch z)) ea, fun a _ ea => k a _ (ne_of ea e (fun z => nomatch z)) ea⟩
/-- all names' stores -/
structure StR (E : List Int) (SP : List Spt) (cs : List Addr) (H : Hp) (kvs : List (L2.Key × V)) (st : StF) (as : List Addr) : Prop where
  keys : kvs = (st.zip as).map fun x => ((.inr x.1.1 : L2.Key), V.ref x.2)
  len : as.length = st.length
  nd : (st.map (·.1)).Nodup
  and : as.Nodup
  sto : ∀ (i : Nat) a e, as[i]? = some a → st[i]? = some e → Sto E SP cs H a e.2
theorem StR.nil {E : List Int} {SP : List Spt} {cs : List Addr} {H : Hp} : StR E SP cs H [] [] [] := ⟨rfl, rfl, List.nodup_nil, List.nodup_nil, fun i a e h => nomatch h⟩
theorem StR.kl {E : List Int} {SP : List Spt} {cs : List Addr} {H : Hp} {kvs : List (L2.Key × V)} {st : StF} {as : List Addr} (h : StR E SP cs H kvs st as) : kvs.length = st.length := by
  rw [h.keys, List.length_map, List.length_zip, h.len, Nat.min_self]
theorem zip_fst {α β : Type} : ∀ {xs : List α} {ys : List β}, ys.length = xs.length → (xs.zip ys).map (·.1) = xs
  | [], [], _ => rfl
  | [], _ :: _, h => nomatch h
  | _ :: _, [], h => nomatch h
  | x :: xs, y :: ys, h => by rw [List.zip_cons_cons, List.map_cons, zip_fst (Nat.succ.inj h)]
theorem StR.nam {E : List Int} {SP : List Spt} {cs : List Addr} {H : Hp} {kvs : List (L2.Key × V)} {st : StF} {as : List Addr} (h : StR E SP cs H kvs st as) : NamK kvs st := by
  unfold NamK
  rw [h.keys, List.map_map]
  conv => rhs; rw [← zip_fst h.len]
  rw [List.map_map]
  rfl
/-- lists, tuples and stores stand -/
theorem StR.keep {E : List Int} {SP : List Spt} {cs : List Addr} {H H' : Hp} {kvs : List (L2.Key × V)} {st : StF} {as : List Addr} (h : StR E SP cs H kvs st as) (k : KpL H H') (ks : ∀ a ∈ as, ∀ kv, H a = some (.dT kv) → H' a = some (.dT kv)) : StR E SP cs H' kvs st as :=
  ⟨h.keys, h.len, h.nd, h.and, fun i a e e1 e2 => (h.sto i a e e1 e2).keep k (ks a (List.mem_of_getElem? e1))⟩
theorem StR.same {E : List Int} {SP : List Spt} {cs : List Addr} {H H' : Hp} {kvs : List (L2.Key × V)} {st : StF} {as : List Addr} (h : StR E SP cs H kvs st as) (s : Same H H') : StR E SP cs H' kvs st as := h.keep (KpL.same s) fun _ _ _ e => s _ _ e
theorem nd_ix {α β : Type} {f : α → β} {l : List α} (nd : (l.map f).Nodup) {i j : Nat} {a b : α} (ha : l[i]? = some a) (hb : l[j]? = some b) (e : f a = f b) : i = j := by
  obtain ⟨hi, ei⟩ := List.getElem?_eq_some_iff.mp ha
  obtain ⟨hj, ej⟩ := List.getElem?_eq_some_iff.mp hb
  exact (List.getElem_inj (h₀ := by rw [List.length_map]; exact hi) (h₁ := by rw [List.length_map]; exact hj) nd).mp (by rw [List.getElem_map, List.getElem_map, ei, ej, e])
theorem find_nd {α β : Type} [DecidableEq β] {f : α → β} {l : List α} (nd : (l.map f).Nodup) {i : Nat} {a : α} (ha : l[i]? = some a) : l.find? (fun x => decide (f x = f a)) = some a := by
  cases h : l.find? (fun x => decide (f x = f a)) with
  | none => exact absurd (decide_eq_true rfl) (List.find?_eq_none.mp h a (List.mem_of_getElem? ha))
  | some b =>
    have e : f b = f a := of_decide_eq_true (List.find?_some (p := fun x => decide (f x = f a)) h)
    obtain ⟨j, ej⟩ := List.getElem?_of_mem (List.mem_of_find?_eq_some h)
    have := nd_ix nd ej ha e
    subst this
    rw [ej] at ha
    exact ha
/-- where a name stands -/
theorem StR.get {E : List Int} {SP : List Spt} {cs : List Addr} {H : Hp} {kvs : List (L2.Key × V)} {st : StF} {as : List Addr} (h : StR E SP cs H kvs st as) {x : Str} (hx : hasN st x = true) : ∃ (i : Nat) (a : Addr) (e : Str × Whr), as[i]? = some a ∧ st[i]? = some e ∧ e.1 = x ∧ valV kvs (.inr x) = some (.ref a) ∧ whF st x = e.2 ∧ Sto E SP cs H a e.2 := by
  obtain ⟨e, he, ee⟩ := List.any_eq_true.mp hx
  have ee : e.1 = x := of_decide_eq_true ee
  obtain ⟨i, ei⟩ := List.getElem?_of_mem he
  have hi : i < as.length := by rw [h.len]; exact (List.getElem?_eq_some_iff.mp ei).1
  have ea : as[i]? = some as[i] := List.getElem?_eq_getElem hi
  refine ⟨i, as[i], e, ea, ei, ee, ?_, ?_, h.sto i _ e ea ei⟩
  · have ek : kvs[i]? = some (.inr x, .ref as[i]) := by
      rw [h.keys, List.getElem?_map, show (st.zip as)[i]? = some (e, as[i]) from List.getElem?_zip_eq_some.mpr ⟨ei, ea⟩]
      rw [← ee]
      rfl
    have ndk : (kvs.map (·.1)).Nodup := by
      rw [h.nam]
      have := h.nd
      rw [show (st.map fun e => (.inr e.1 : L2.Key)) = (st.map (·.1)).map Sum.inr by rw [List.map_map]; rfl]
      exact List.Pairwise.map _ (fun a b hab z => hab (Sum.inr.inj z)) this
    have := find_nd ndk ek
    unfold valV
    rw [this]
    rfl
  · have := find_nd h.nd ei
    unfold whF
    rw [← ee, this]
theorem psF_map {st : StF} {x : Str} {W : Whr} (h : hasN st x = true) : psF st x W = st.map fun e => if e.1 = x then (e.1, W) else e := by
  unfold psF
  rw [if_pos h]
/-- a store changes -/
theorem StR.put {E : List Int} {SP : List Spt} {cs : List Addr} {H H' : Hp} {kvs : List (L2.Key × V)} {st : StF} {as : List Addr} (h : StR E SP cs H kvs st as) {i : Nat} {a : Addr} {e : Str × Whr} {x : Str} {W : Whr} (ea : as[i]? = some a) (ei : st[i]? = some e) (ex : e.1 = x) (k : ButS a H H') (hS : Sto E SP cs H' a W) : StR E SP cs H' kvs (psF st x W) as := by
  have hx : hasN st x = true := List.any_eq_true.mpr ⟨e, List.mem_of_getElem? ei, decide_eq_true ex⟩
  have h0 := h.sto i a e ea ei
  have kl := h0.kpl k
  have e1 : (psF st x W).map (·.1) = st.map (·.1) := by
    rw [psF_map hx, List.map_map]
    refine List.map_congr_left fun y _ => ?_
    show (if y.1 = x then (y.1, W) else y).1 = y.1
    split <;> rfl
  have hl : (psF st x W).length = st.length := by rw [psF_map hx, List.length_map]
  refine ⟨?_, by rw [hl]; exact h.len, by rw [e1]; exact h.nd, h.and, fun j b y eb ey => ?_⟩
  · rw [h.keys]
    rw [psF_map hx, List.zip_map_left, List.map_map]
    refine List.map_congr_left fun y _ => ?_
    show ((.inr y.1.1 : L2.Key), V.ref y.2) = (.inr (if y.1.1 = x then (y.1.1, W) else y.1).1, V.ref y.2)
    split <;> rfl
  · rw [psF_map hx, List.getElem?_map] at ey
    obtain ⟨y0, ey0, rfl⟩ := Option.map_eq_some_iff.mp ey
    by_cases c : y0.1 = x
    · have := nd_ix h.nd ey0 ei (c.trans ex.symm)
      subst this
      rw [ea] at eb
      cases eb
      rw [if_pos c]
      exact hS
    · rw [if_neg c]
      have hj := h.sto j b y0 eb ey0
      have ne : b ≠ a := fun z => by
        rw [z] at eb
        have : j = i := (List.getElem_inj (h₀ := (List.getElem?_eq_some_iff.mp eb).1) (h₁ := (List.getElem?_eq_some_iff.mp ea).1) h.and).mp (by
          rw [(List.getElem?_eq_some_iff.mp eb).2, (List.getElem?_eq_some_iff.mp ea).2])
        subst this
        rw [ey0] at ei
        cases ei
        exact c ex
      exact hj.keep kl fun kv e => k _ _ ne e
/-- a new name -/
theorem StR.add {E : List Int} {SP : List Spt} {cs : List Addr} {H : Hp} {kvs : List (L2.Key × V)} {st : StF} {as : List Addr} (h : StR E SP cs H kvs st as) {x : Str} {z : Addr} (hx : hasN st x = false) (hz : z ∉ as) (hS : Sto E SP cs H z fun _ => none) : StR E SP cs H (kvs ++ [(.inr x, .ref z)]) (st ++ [(x, fun _ => none)]) (as ++ [z]) := by
  have hno : ∀ e ∈ st, e.1 ≠ x := fun e he y => by
    have : hasN st x = true := List.any_eq_true.mpr ⟨e, he, decide_eq_true y⟩
    rw [hx] at this
    cases this
  refine ⟨?_, by rw [List.length_append, List.length_append, h.len]; rfl, ?_, ?_, fun j b y eb ey => ?_⟩
  · rw [h.keys, List.zip_append h.len.symm, List.map_append]
    rfl
  · rw [List.map_append]
    refine List.nodup_append.mpr ⟨h.nd, by simp, fun a ha b hb => ?_⟩
    obtain ⟨e, he, rfl⟩ := List.mem_map.mp ha
    have hb : b = x := by simpa using hb
    rw [hb]
    exact hno e he
  · refine List.nodup_append.mpr ⟨h.and, by simp, fun a ha b hb => ?_⟩
    have hb : b = z := by simpa using hb
    rw [hb]
    exact fun y => hz (y ▸ ha)
  · by_cases c : j < as.length
    · rw [List.getElem?_append_left c] at eb
      rw [List.getElem?_append_left (by rw [← h.len]; exact c)] at ey
      exact h.sto j b y eb ey
    · have hj : j = as.length := by
        have := (List.getElem?_eq_some_iff.mp eb).1
        rw [List.length_append] at this
        have : j < as.length + 1 := this
        omega
      subst hj
      rw [List.getElem?_append_right (Nat.le_refl _), Nat.sub_self] at eb
      rw [List.getElem?_append_right (by rw [h.len]; exact Nat.le_refl _), h.len, Nat.sub_self] at ey
      cases eb
      cases ey
      exact hS
theorem psF_add {st : StF} {x : Str} {W : Whr} (hx : hasN st x = false) : psF (st ++ [(x, fun _ => none)]) x W = psF st x W := by
  have hno : ∀ e ∈ st, e.1 ≠ x := fun e he y => by
    have : hasN st x = true := List.any_eq_true.mpr ⟨e, he, decide_eq_true y⟩
    rw [hx] at this
    cases this
  have h1 : hasN (st ++ [(x, fun _ => none)]) x = true := List.any_eq_true.mpr ⟨_, List.mem_append_right _ (List.mem_singleton.mpr rfl), decide_eq_true rfl⟩
  rw [psF_map h1]
  unfold psF
  rw [hx, if_neg (fun z => nomatch z), List.map_append]
  refine congr (congrArg _ ?_) ?_
  · conv => rhs; rw [← List.map_id st]
    exact List.map_congr_left fun e he => by rw [if_neg (hno e he)]; rfl
  · show [if x = x then (x, W) else _] = [(x, W)]
    rw [if_pos rfl]
theorem whF_no {st : StF} {x : Str} (hx : hasN st x = false) : whF st x = fun _ => none := by
  unfold whF
  rw [List.find?_eq_none.mpr fun e he y => by
    have : hasN st x = true := List.any_eq_true.mpr ⟨e, he, y⟩
    rw [hx] at this
    cases this]
/-- a list that no store has changes -/
theorem Sto.updL {E : List Int} {SP : List Spt} {cs : List Addr} {H : Hp} {s : Addr} {W : Whr} (h : Sto E SP cs H s W) {L : Addr} {ws ws' : List V} (m : L ∈ cs) (e : H L = some (.lst ws)) : Sto E SP cs (upd H L (.lst ws')) s W := by
  obtain ⟨kvs, es, hk⟩ := h.at_
  refine ⟨h.el, h.sl, h.ch, fun c hc => ?_, kvs, by rw [upd_ne (ne_of es e (fun z => nomatch z))]; exact es, hk.nd, fun x hx => ?_, hk.all⟩
  · by_cases y : c = L
    · exact ⟨ws', by rw [y, upd_same]⟩
    · obtain ⟨w2, e2⟩ := h.al c hc
      exact ⟨w2, by rw [upd_ne y]; exact e2⟩
  · obtain ⟨sp, l, rs, h1, h2, h3, ⟨us, h4, h5⟩, h6, h7⟩ := hk.ent x hx
    exact ⟨sp, l, rs, h1, h2, h3, ⟨us, by rw [upd_ne (show l ≠ L from fun y => h7 (by rw [y]; exact m))]; exact h4, h5.upd_lst e⟩, h6, h7⟩
theorem StR.updL {E : List Int} {SP : List Spt} {cs : List Addr} {H : Hp} {kvs : List (L2.Key × V)} {st : StF} {as : List Addr} (h : StR E SP cs H kvs st as) {L : Addr} {ws ws' : List V} (m : L ∈ cs) (e : H L = some (.lst ws)) : StR E SP cs (upd H L (.lst ws')) kvs st as :=
  ⟨h.keys, h.len, h.nd, h.and, fun i a e' e1 e2 => (h.sto i a e' e1 e2).updL m e⟩
/-- a name's store, new or not -/
def FactS (E : List Int) (SP : List Spt) (cs : List Addr) (H : Hp) (st : StF) (as : List Addr) (S z : Addr) (x : Str) (a1 : Addr) (H6 : Hp) : Prop := ∃ (kvs1 : List (L2.Key × V)) (as1 : List Addr) (st1 : StF) (i1 : Nat) (e1 : Str × Whr), H6 S = some (.dK kvs1) ∧ ButS S H H6 ∧ StR E SP cs H6 kvs1 st1 as1 ∧ as1[i1]? = some a1 ∧ st1[i1]? = some e1 ∧ e1.1 = x ∧ e1.2 = whF st x ∧ (∀ W, psF st1 x W = psF st x W) ∧ ∀ b ∈ as1, b ∈ as ∨ b = z
section
variable {E : List Int} {SP : List Spt} {cs : List Addr} {H : Hp} {kvs : List (L2.Key × V)} {st : StF} {as : List Addr} {S z : Addr} {x : Str}
theorem setd_old (h : StR E SP cs H kvs st as) (eS : H S = some (.dK kvs)) {v : V} (hv : valV kvs (.inr x) = some v) : ∃ a1, v = .ref a1 ∧ FactS E SP cs H st as S z x a1 H := by
  have hx : hasN st x = true := by rw [← valK_is h.nam x, hv]; rfl
  obtain ⟨i, a, e, h1, h2, h3, h4, h5, _⟩ := h.get hx
  rw [hv] at h4
  cases h4
  exact ⟨a, rfl, kvs, as, st, i, e, eS, ButS.refl _ _, h, h1, h2, h3, h5.symm, (fun _ => rfl), fun b hb => .inl hb⟩
theorem setd_new (hal : ∀ c ∈ cs, ∃ ws, H c = some (.lst ws)) (hE : E.length ≤ 300) (hSP : SP.length ≤ 1000) (h : StR E SP cs H kvs st as) (eS : H S = some (.dK kvs)) (ez : H z = some (.dT [])) (hz : z ∉ as) (hv : valV kvs (.inr x) = none) : FactS E SP cs H st as S z x z (upd H S (.dK (putK kvs (.inr x) (.ref z)))) := by
  have hx : hasN st x = false := by rw [← valK_is h.nam x, hv]; rfl
  have ek : putK kvs (.inr x) (.ref z) = kvs ++ [((.inr x : L2.Key), V.ref z)] := by
    unfold putK
    rw [if_neg]
    intro c
    obtain ⟨kv, h1, h2⟩ := List.any_eq_true.mp c
    unfold valV at hv
    exact List.find?_eq_none.mp (Option.map_eq_none_iff.mp hv) kv h1 h2
  rw [ek]
  have bu : ButS S H (upd H S (.dK (kvs ++ [(.inr x, .ref z)]))) := ButS.upd
  have ku : KpL H (upd H S (.dK (kvs ++ [(.inr x, .ref z)]))) := ⟨fun a _ ea => bu a _ (ne_of ea eS (fun z => nomatch z)) ea, fun a _ ea => bu a _ (ne_of ea eS (fun z => nomatch z)) ea⟩
  have kt : ∀ (a : Addr) (kv : List (List L2.Key × V)), H a = some (.dT kv) → upd H S (.dK (kvs ++ [(.inr x, .ref z)])) a = some (.dT kv) := fun a _ ea => bu a _ (ne_of ea eS (fun z => nomatch z)) ea
  have hS0 : Sto E SP cs (upd H S (.dK (kvs ++ [(.inr x, .ref z)]))) z fun _ => none := ⟨hE, hSP, ChW.none E, (fun c hc => let ⟨ws, e⟩ := hal c hc; ⟨ws, ku.l _ _ e⟩), [], kt _ _ ez, List.nodup_nil, (fun e he => nomatch he), fun n sp e => nomatch e⟩
  have hR := (h.keep ku fun a _ kv ea => kt a kv ea).add hx hz hS0
  refine ⟨_, _, _, st.length, (x, fun _ => none), upd_same, bu, hR, ?_, ?_, rfl, (whF_no hx).symm, (fun W => psF_add hx), fun b hb => ?_⟩
  · rw [← h.len, List.getElem?_append_right (Nat.le_refl _), Nat.sub_self]
    rfl
  · rw [List.getElem?_append_right (Nat.le_refl _), Nat.sub_self]
    rfl
  · exact (List.mem_append.mp hb).imp id List.mem_singleton.mp
end
theorem pack_new {d : Deed} {st : StF} (h : wdF d st = "done") (hp : isPack d = true) : whF st d.nam = fun _ => none := by
  cases d with
  | pack n m x =>
    have h : (if hasN st n = true then ("packed" : Str) else "done") = "done" := h
    cases c : hasN st n with
    | true =>
      rw [c, if_pos rfl] at h
      exact absurd h (by decide +kernel)
    | false => exact whF_no c
  | lade => cases hp
  | sell => cases hp
  | back => cases hp
  | tell => cases hp
def stepD (s : StepT) : PyData := .tuple [.int s.num, .str s.nam, .str s.word, .list (s.short.map pairD), .list (s.puts.map putD)]
def spGone (K : PySem.W.Frag) (Ms : GX.Mq) (Xs : List Addr) (Pi : Addr) : Sp := fun vs H Q _ => ∃ (a : Addr) (us : List V) (day : Int) (ps : List Page) (E : List Int) (SP : List Spt), vs = [.ref a, .int day] ∧ SqH H a us ∧ PgL H us ps ∧ GX.TQ Ms Xs H ∧ LamO Ms Pi ∧ E.length ≤ 300 ∧ SP.length ≤ 1000 ∧ (∀ p ∈ ps, p.deed.Fit E SP p.num) ∧ ps.length ≤ 900 ∧
  ∀ T S L kvs ws as out H', H T = none → H' T = some (.tup [.ref S, .ref L]) → H' S = some (.dK kvs) → H' L = some (.lst ws) → InO (ps.filter fun p => decide (p.day ≤ day)) out → StR E SP [L] H' kvs (goF [] out).1 as → (∀ cs : List Addr, (∀ z ∈ cs, H z ≠ none) → Thg cs H' (.ref L) (.list ((goF [] out).2.map stepD))) → GX.NoTab H H' → GX.TQ Ms Xs H' → Q (.ref T) H'
abbrev sGone : Stmt := topS 26
theorem scGone : FnScope ["heap", "day", "stores", "steps", "page", "number", "deed", "name", "word", "short", "puts", "doing", "one"] ["heap", "day"] (defScope sGone) := ⟨rfl, rfl, rfl, by decide +kernel, rfl, by decide +kernel, by decide +kernel⟩
section
variable {K : PySem.W.Frag} {mg : Str → Option Value} {P : Program} {w : World} {base : Heap} {Ms : GX.Mq} {Xs : List Addr} {Pi dN dD : Addr} (kN : KNames K w dN) {SD : Addr → Option Sp} (hA : ∀ f sp, SD f = some sp → Held P w K mg base 6 f sp) (hD : ∀ d : Deed, ∃ f c, KDct K w dD d.kind (.ref f) ∧ SD f = some (spDo c) ∧ c d = true)
include kN hA hD
theorem ok_Gone {f : Addr} {fd : FuncData} (F : Fun K "gone_through" "gone_through" sGone f fd) (C_in_order : Cal P w K mg base 4 "in_order" ["pages"] (spInOrder K Ms Xs Pi)) (C_word_of : Cal P w K mg base 1 "word_of" ["deed", "packed"] spWordOf) (c_NAME_AT : ∃ u, mg "NAME_AT" = some u ∧ RelV (.ref dN) u) (c_DONE : ∃ u, mg "DONE" = some u ∧ RelV (.str "done") u) (c_DOING : ∃ u, mg "DOING" = some u ∧ RelV (.ref dD) u) : FnOk P w K mg base CX0 7 f fd ["heap", "day"] (spGone K Ms Xs Pi) := by
  refine F.ok scGone (fun vs H Q E h => ?_) (fun cdv A outer s H vs Q E hr h => ?_)
  · obtain ⟨a, us, day, ps, E, SP, rfl, _⟩ := h
    rfl
  · obtain ⟨a, us, day, ps, E, SP, rfl, ha, hu, hT, hL, hE, hSP, hfit, hpl, q⟩ := h
    refine ⟨_, pss_cons (ps_set (i := 2) scGone.nd rfl (.inl rfl) pe_dnewK)
      (pss_cons (ps_set (i := 3) scGone.nd rfl (.inl rfl) (pe_lst pa_nil))
      (pss_cons (ps_for PassesOwn.never rfl (pi_list (pe_own C_in_order (hr.mono (show 4 ≤ 6 by decide)) (by rfl) (pa_cons (pe_lc (own := [("one", 12)]) (g := (gName 12)) (tt := (tTest (tOp (rI0 fun i j => .bl (decide (i ≤ j))) (tOp (rIxT K) (tVar 12) (tC (.int 0))) (tVar 1)))) (te := (tVar 12)) rfl scGone.nd (pi_seq (pv 0)) (blkOk_by (own := [("one", 12)]) (N := ["heap", "day", "stores", "steps", "page", "number", "deed", "name", "word", "short", "puts", "doing", "one"]) (sc := defScope sGone) (by decide +kernel)) (fun _ _ _ _ _ => (pg_name (i := 12) scGone.nd rfl (.inl rfl))) (fun _ _ _ _ _ => (pts_one (pt_cmpR op_le (pe_ix ix_tup (pv 12) pe_int (fun _ _ => rfl)) (pv 1) (nomark _)))) (fun _ _ _ _ _ => (pv 12))) pa_nil))) (pg_name (i := 4) scGone.nd rfl (.inl rfl))
        (pss_cons (ps_par rfl scGone.nd (i := 5) (j := 6) rfl rfl (by decide) rfl rfl (pa_cons (pe_ix ix_tup (pv 4) pe_int (fun _ _ => rfl)) (pa_cons (pe_ix ix_tup (pv 4) pe_int (fun _ _ => rfl)) pa_nil)) (by rfl))
        (pss_cons (ps_set (i := 7) scGone.nd rfl (.inl rfl) (pe_ix ix_tup (pv 6) (pe_ix ix_kdict (C8.pe_gc (by rfl) c_NAME_AT) (pe_ix ix_tup (pv 6) pe_int (fun _ _ => rfl)) (fun _ _ => rfl)) (fun _ _ => rfl)))
        (pss_cons (ps_set (i := 8) scGone.nd rfl (.inl rfl) (pe_own C_word_of (hr.mono (show 1 ≤ 6 by decide)) (by rfl) (pa_cons (pv 6) (pa_cons (pv 2) pa_nil))))
        (pss_cons (ps_par rfl scGone.nd (i := 9) (j := 10) rfl rfl (by decide) rfl rfl (pa_cons (pe_lst pa_nil) (pa_cons (pe_lst pa_nil) pa_nil)) (by rfl))
        (Evl.pss_cut (ps_if (pt_cmpR op_eq (pv 8) (C8.pe_gc (by rfl) c_DONE) (nomark _)) (pss_cons (ps_set (i := 11) scGone.nd rfl (.inl rfl) (pe_ix ix_kdict (C8.pe_gc (by rfl) c_DOING) (pe_ix ix_tup (pv 6) pe_int (fun _ _ => rfl)) (fun _ _ => rfl)))
          (pss_one (ps_asg (pe_callA (i := 11) (S := SD) hA hr rfl (.inl rfl) (pa_cons (pe_dsetd (pv 2) (pv 7) pe_dnewT ⟨rfl, rfl, rfl, rfl⟩) (pa_cons (pv 5) (pa_cons (pv 6) pa_nil)))) (pg_tup rfl (pgs_cons (pg_name (i := 9) scGone.nd rfl (.inl rfl)) (pgs_cons (pg_name (i := 10) scGone.nd rfl (.inl rfl)) pgs_nil))))))
          pss_nil)
        (pss_one (ps_expr (pe_bm PySem.F.plainAttrs_list PySem.F.slot_list_append PySem.F.type_list_append mt_append (pv 3) (pa_cons (pe_tup (pa_cons (pv 5) (pa_cons (pv 7) (pa_cons (pv 8) (pa_cons (pv 9) (pa_cons (pv 10) pa_nil)))))) pa_nil))))))))))
      (pss_one (ps_ret (pe_tup (pa_cons (pv 2) (pa_cons (pv 3) pa_nil))))))), ?_⟩
    refine fun S nS => ⟨Nat.zero_le _, fun L nL => ?_⟩
    have sS := same_upd (o := .dK []) nS
    have sL := same_upd (o := .lst []) nL
    have eS := sL _ _ (upd_same (H := H) (a := S) (o := .dK []))
    have eL := upd_same (H := upd H S (.dK [])) (a := L) (o := .lst [])
    have nLH : H L = none := sS.free nL
    have S2 := sS.trans sL
    revert eS eL S2
    generalize upd (upd H S (.dK [])) L (.lst []) = H2
    intro eS eL S2
    refine ⟨_, rfl, a, rfl, iseq_lc (ha.same S2) fun J G wk hG D nD => lc_it wk (fun j H' => Same H2 H' ∧ ∃ zs, H' D = some (.lst zs) ∧ PgL H zs ((ps.take j).filter fun p => decide (p.day ≤ day)) ∧ zs.length ≤ j) ⟨same_upd nD, [], upd_same, PgL.nil, Nat.le_refl _⟩ (fun j H' _ hP => hG H' (NoTab.same hP.1)) (fun j x H' H'' hj hP hy => ?_) (fun H3 hP => ?_)⟩
    · obtain ⟨sm, zs, eD, hz, hzl⟩ := hP
      obtain ⟨rfl, hx⟩ := hy
      obtain ⟨p, ep, hp⟩ := hu.at hx
      have et : ps.take (j + 1) = ps.take j ++ [p] := by rw [List.take_add_one, ep]; rfl
      have hj' : j < us.length := (List.getElem?_eq_some_iff.mp hx).1
      have hul := hu.1
      have hp' := hp
      obtain ⟨q0, D0, rfl, eq0, _⟩ := hp
      have eq := sm _ _ (S2 _ _ eq0)
      refine ⟨rfl, _, rfl, q0, _, 0, _, rfl, rfl, .inl (.inl eq), atI_nat (j := 0) rfl, _, rfl, _, _, rfl, rfl, _, rfl, ite2 (fun c => ?_) (fun c => ?_)⟩
      · have ef : (ps.take (j + 1)).filter (fun p => decide (p.day ≤ day)) = ((ps.take j).filter fun p => decide (p.day ≤ day)) ++ [p] := by
          rw [et, List.filter_append, List.filter_cons_of_pos (by exact c)]
          rfl
        refine ⟨_, rfl, zs, eD, by rw [sizeLine_eq]; omega, fun b o eb => ?_, zs ++ [.ref q0], upd_same, by rw [ef]; exact hz.snoc hp', by rw [List.length_append]; show zs.length + 1 ≤ j + 1; omega⟩
        rw [upd_ne (ne_of_none eb nD)]
        exact sm _ _ eb
      · have ef : (ps.take (j + 1)).filter (fun p => decide (p.day ≤ day)) = (ps.take j).filter fun p => decide (p.day ≤ day) := by
          rw [et, List.filter_append, List.filter_cons_of_neg (by exact c)]
          exact List.append_nil _
        exact ⟨sm, zs, eD, by rw [ef]; exact hz, by omega⟩
    obtain ⟨sm, zs, eD, hz, hzl⟩ := hP
    rw [hu.1, List.take_length] at hz
    have S3 := S2.trans sm
    refine ⟨D, zs, _, rfl, eD, hz.kpl (KpL.same S3), hT.same S3, hL, fun l ys out H4 nl n4 t4 el hout hO => ?_⟩
    have hO' := hout H hz
    have hyl := hO'.1
    have hol : out.length ≤ 900 := by
      rw [hO.perm.length_eq]
      exact Nat.le_trans (List.length_filter_le _ _) hpl
    have n04 : GX.NoTab H H4 := (NoTab.same S3).trans n4
    have eS4 := n4.keep _ _ (sm _ _ eS) (fun _ z => nomatch z)
    have eL4 := n4.lst (sm _ _ eL)
    have nlL : l ≠ L := fun z => by rw [z, sm _ _ eL] at nl; cases nl
    have hfo : ∀ p ∈ out, p.deed.Fit E SP p.num := fun p hp => hfit p (List.mem_filter.mp (hO.perm.mem_iff.mp hp)).1
    refine ⟨l, rfl, ⟨_, SqL.of el⟩, for_list (xs := ys) (fun i σ Hx => ∃ (kvs : List (L2.Key × V)) (ws : List V) (as : List Addr) (y4 y5 y6 y7 y8 y9 y10 y11 : Option V), σ = [some (.ref a), some (.int day), some (.ref S), some (.ref L), y4, y5, y6, y7, y8, y9, y10, y11, none] ∧ Hx S = some (.dK kvs) ∧ Hx L = some (.lst ws) ∧ StR E SP [L] Hx kvs (goF [] (out.take i)).1 as ∧ (∀ b ∈ as, H b = none) ∧ (∀ cs : List Addr, (∀ z ∈ cs, H z ≠ none) → ThgL (L :: cs) Hx ws ((goF [] (out.take i)).2.map stepD)) ∧ ws.length ≤ i ∧ kvs.length ≤ i ∧ GX.NoTab H Hx ∧ GX.TQ Ms Xs Hx ∧ Hx l = some (.lst ys)) ⟨[], [], [], _, _, _, _, _, _, _, _, rfl, eS4, eL4, StR.nil, (fun b hb => nomatch hb), (fun _ _ => ThgL.nil), Nat.le_refl _, Nat.le_refl _, n04, t4, el⟩ (fun i σ Hx _ hP => ?_) (fun i x σ Hx hx hP => ?_) (fun σ Hx hP => ?_)⟩
    · obtain ⟨kvs, ws, as, _, _, _, _, _, _, _, _, rfl, _, _, _, _, _, _, _, _, _, elx⟩ := hP
      exact SqL.of elx
    · obtain ⟨kvs, ws, as, y4, y5, y6, y7, y8, y9, y10, y11, rfl, eSx, eLx, hSt, hfr, hw, hwl, hkl, nx, tx, elx⟩ := hP
      have hi : i < ys.length := (List.getElem?_eq_some_iff.mp hx).1
      obtain ⟨p, ep, hp0⟩ := hO'.at hx
      have hp := hp0.kpl (KpL.noTab nx)
      obtain ⟨q0, D0, rfl, eq, eD0⟩ := hp
      have et : out.take (i + 1) = out.take i ++ [p] := by rw [List.take_add_one, ep]; rfl
      have hgo := goF_snoc p (out.take i) []
      rw [← et] at hgo
      revert hSt hw hgo
      generalize goF [] (out.take i) = gst
      intro hSt hw hgo
      obtain ⟨st, steps⟩ := gst
      have hfp := hfo p (List.mem_of_getElem? ep)
      obtain ⟨xs, et0, e0, e1⟩ := eD0.tup
      refine ⟨_, rfl, q0, _, 1, _, rfl, rfl, .inl (.inl eq), atI_nat (j := 1) rfl, _, rfl, q0, _, 2, _, rfl, rfl, .inl (.inl eq), atI_nat (j := 2) rfl, _, _, rfl, ?_⟩
      refine ⟨_, rfl, _, rfl, D0, xs, 0, _, rfl, rfl, .inl (.inl et0), e0, dN, _, _, rfl, rfl, kN.get p.deed, D0, xs, _, _, rfl, rfl, .inl (.inl et0), e1, ?_⟩
      refine ⟨_, rfl, _, rfl, D0, S, p.deed, kvs, st, rfl, eD0, eSx, hSt.nam, ?_⟩
      refine ⟨Nat.zero_le _, fun l1 nl1 => ⟨Nat.zero_le _, fun l2 nl2 => ⟨_, _, rfl, ?_⟩⟩⟩
      have s1 := same_upd (o := .lst []) nl1
      have s2 := same_upd (o := .lst []) nl2
      have S5 := s1.trans s2
      have el1 := s2 _ _ (upd_same (H := Hx) (a := l1) (o := .lst []))
      have el2 := upd_same (H := upd Hx l1 (.lst [])) (a := l2) (o := .lst [])
      have nl1L : l1 ≠ L := fun z => by rw [z, eLx] at nl1; cases nl1
      have nl2L : l2 ≠ L := fun z => by rw [z, s1 _ _ eLx] at nl2; cases nl2
      revert S5 el1 el2
      generalize upd (upd Hx l1 (.lst [])) l2 (.lst []) = H5
      intro S5 el1 el2
      have hw5 := fun (cs : List Addr) (hc : ∀ z ∈ cs, H z ≠ none) => (hw cs hc).same S5
      have n5 := nx.trans (NoTab.same S5)
      have t5 := tx.same S5
      have hSt5 := hSt.same S5
      refine ⟨fun σ H' => ∃ (x9 x10 : V) (y11 : Option V) (kvs' : List (L2.Key × V)) (as' : List Addr), σ = [some (.ref a), some (.int day), some (.ref S), some (.ref L), some (.ref q0), some (.int p.num), some (.ref D0), some (.str p.deed.nam), some (.str (wdF p.deed st)), some x9, some x10, y11, none] ∧ H' S = some (.dK kvs') ∧ H' L = some (.lst ws) ∧ StR E SP [L] H' kvs' (pgF p st).1 as' ∧ (∀ b ∈ as', H b = none) ∧ kvs'.length ≤ i + 1 ∧ (∀ cs : List Addr, (∀ z ∈ cs, H z ≠ none) → Thg (L :: cs) H' x9 (.list ((pgF p st).2.short.map pairD))) ∧ (∀ cs : List Addr, (∀ z ∈ cs, H z ≠ none) → Thg (L :: cs) H' x10 (.list ((pgF p st).2.puts.map putD))) ∧ (∀ cs : List Addr, (∀ z ∈ cs, H z ≠ none) → ThgL (L :: cs) H' ws (steps.map stepD)) ∧ GX.NoTab H H' ∧ GX.TQ Ms Xs H' ∧ H' l = some (.lst ys), ?_, ?_⟩
      · refine ⟨_, rfl, rfl, _, rfl, ite2 (fun c => ?_) (fun c => ?_)⟩
        rotate_left
        · have c' : ¬ wdF p.deed st = "done" := fun z => c (decide_eq_true (congrArg V.str z))
          have ep : pgF p st = (st, ⟨p.num, p.deed.nam, wdF p.deed st, [], []⟩) := by unfold pgF; rw [if_neg c']
          rw [ep]
          exact ⟨.ref l1, .ref l2, _, kvs, as, rfl, S5 _ _ eSx, S5 _ _ eLx, hSt5, hfr, by omega, (fun cs hc => ThgL.nil.lst el1 fun z => by rcases List.mem_cons.mp z with y | y; exact nl1L y; exact hc _ y (nx.free nl1)), (fun cs hc => ThgL.nil.lst el2 fun z => by rcases List.mem_cons.mp z with y | y; exact nl2L y; exact hc _ y (nx.free (s1.free nl2))), hw5, n5, t5, S5 _ _ elx⟩
        have c' : wdF p.deed st = "done" := V.str.inj (of_decide_eq_true c)
        have ep : pgF p st = (psF st p.deed.nam (doF p.num p.deed (whF st p.deed.nam)).1, ⟨p.num, p.deed.nam, "done", (doF p.num p.deed (whF st p.deed.nam)).2.1, (doF p.num p.deed (whF st p.deed.nam)).2.2⟩) := by unfold pgF; rw [if_pos c']
        rw [ep]
        obtain ⟨f1, cc, hKD, hSD, hcc⟩ := hD p.deed
        refine ⟨_, rfl, D0, xs, 0, _, rfl, rfl, .inl (.inl (S5 _ _ et0)), e0, dD, _, _, rfl, rfl, hKD, ?_⟩
        refine ⟨f1, spDo cc, rfl, hSD, _, rfl, S, rfl, .inl ⟨kvs, .inl (S5 _ _ eSx)⟩, _, rfl, fun z nz => ⟨kvs, .inr p.deed.nam, same_upd nz _ _ (S5 _ _ eSx), rfl, by rw [sizeLine_eq]; omega, fun v hv => ?_, fun hv => ?_⟩⟩
        · obtain ⟨a1, rfl, hF⟩ := setd_old (z := z) (hSt5.same (same_upd nz)) (same_upd nz _ _ (S5 _ _ eSx)) hv
          obtain ⟨H7, eH7⟩ : ∃ H7, H7 = upd H5 z (.dT []) := ⟨_, rfl⟩
          have hF : FactS E SP [L] (upd H5 z (.dT [])) st as S z p.deed.nam a1 H7 := by rw [eH7]; exact hF
          rw [← eH7]
          clear eH7
          obtain ⟨kvs1, as1, st1, i1, e1, eS7, b7, hSt7, ea1, ei1, ee1, eW1, hps, hfr1⟩ := hF
          have sz := same_upd (o := .dT []) nz
          have n57 : KpL Hx H7 := (KpL.same (S5.trans sz)).trans (b7.kplK (sz _ _ (S5 _ _ eSx)))
          have n7 : GX.NoTab H H7 := (n5.trans (NoTab.same sz)).but b7 nS
          have t7 : GX.TQ Ms Xs H7 := (t5.same sz).butK b7 (sz _ _ (S5 _ _ eSx))
          have nz0 : H z = none := n5.free nz
          have ha1 : H a1 = none := by
            rcases hfr1 a1 (List.mem_of_getElem? ea1) with y | y
            · exact hfr _ y
            · rw [y]; exact nz0
          have hSa := hSt7.sto i1 a1 e1 ea1 ei1
          rw [eW1] at hSa
          refine ⟨_, rfl, _, rfl, a1, D0, p.num, p.deed, E, SP, [L], whF st p.deed.nam, rfl, hcc, eD0.kpl n57, hfp, hSa, fun hpk n => by rw [pack_new c' hpk], fun T x y H8 nT eT hxy b8 hS8 => ?_⟩
          refine ⟨T, _, rfl, .inl (.inl eT), rfl, _, _, rfl, _, _, rfl, rfl, ?_⟩
          have eL7 := n57.l _ _ eLx
          have hz8 := fun (cs : List Addr) (hc : ∀ z ∈ cs, H z ≠ none) => hxy (L :: cs) (fun c h => by
            rcases List.mem_cons.mp h with y | y
            · rw [y, eL7]; exact fun z => nomatch z
            · exact fun z => hc c y (n7.free z))
          have hx8 := fun (cs : List Addr) (hc : ∀ z ∈ cs, H z ≠ none) => (hz8 cs hc).1
          have hy8 := fun (cs : List Addr) (hc : ∀ z ∈ cs, H z ≠ none) => (hz8 cs hc).2
          obtain ⟨kva, eva, _⟩ := hSa.at_
          have k8 := hSa.kpl b8
          have hR := hSt7.put ea1 ei1 ee1 b8 hS8
          rw [hps] at hR
          have eS8 := b8 S _ (ne_of eS7 eva (fun z => nomatch z)) eS7
          have hkl1 := hSt7.kl
          have hst1 := hR.kl
          have hlen1 : kvs1.length ≤ i + 1 := by
            have h1 := hR.kl
            have : (psF st p.deed.nam (doF p.num p.deed (whF st p.deed.nam)).1).length ≤ st.length + 1 := by
              unfold psF
              split
              · rw [List.length_map]; omega
              · rw [List.length_append]; exact Nat.le_refl _
            have : kvs.length = st.length := hSt5.kl
            omega
          refine ⟨x, y, _, kvs1, as1, rfl, eS8, k8.l _ _ eL7, hR, fun b hb => ?_, hlen1, hx8, hy8, (fun cs hc => ((hw cs hc).kpl n57).kpl k8), n7.but b8 ha1, t7.butT b8 eva, k8.l _ _ (n57.l _ _ elx)⟩
          · rcases hfr1 b hb with y | y
            · exact hfr _ y
            · rw [y]; exact nz0
        · have hF := setd_new (z := z) (cs := [L]) (fun c hc => ⟨ws, by rw [List.mem_singleton.mp hc]; exact same_upd nz _ _ (S5 _ _ eLx)⟩) hE hSP (hSt5.same (same_upd nz)) (same_upd nz _ _ (S5 _ _ eSx)) upd_same (fun hz => by
            obtain ⟨j, ej⟩ := List.getElem?_of_mem hz
            have hj : j < st.length := by rw [← hSt5.len]; exact (List.getElem?_eq_some_iff.mp ej).1
            obtain ⟨kv, ekv, _⟩ := (hSt5.sto j z _ ej (List.getElem?_eq_getElem hj)).at_
            rw [nz] at ekv
            cases ekv) hv
          revert hF
          generalize upd (upd H5 z (.dT [])) S (.dK (putK kvs (.inr p.deed.nam) (.ref z))) = H7
          intro hF
          obtain ⟨a1, ea1z⟩ : ∃ a1, a1 = z := ⟨_, rfl⟩
          have hF : FactS E SP [L] (upd H5 z (.dT [])) st as S z p.deed.nam a1 H7 := by rw [ea1z]; exact hF
          rw [← ea1z]
          clear ea1z
          obtain ⟨kvs1, as1, st1, i1, e1, eS7, b7, hSt7, ea1, ei1, ee1, eW1, hps, hfr1⟩ := hF
          have sz := same_upd (o := .dT []) nz
          have n57 : KpL Hx H7 := (KpL.same (S5.trans sz)).trans (b7.kplK (sz _ _ (S5 _ _ eSx)))
          have n7 : GX.NoTab H H7 := (n5.trans (NoTab.same sz)).but b7 nS
          have t7 : GX.TQ Ms Xs H7 := (t5.same sz).butK b7 (sz _ _ (S5 _ _ eSx))
          have nz0 : H z = none := n5.free nz
          have ha1 : H a1 = none := by
            rcases hfr1 a1 (List.mem_of_getElem? ea1) with y | y
            · exact hfr _ y
            · rw [y]; exact nz0
          have hSa := hSt7.sto i1 a1 e1 ea1 ei1
          rw [eW1] at hSa
          refine ⟨_, rfl, _, rfl, a1, D0, p.num, p.deed, E, SP, [L], whF st p.deed.nam, rfl, hcc, eD0.kpl n57, hfp, hSa, fun hpk n => by rw [pack_new c' hpk], fun T x y H8 nT eT hxy b8 hS8 => ?_⟩
          refine ⟨T, _, rfl, .inl (.inl eT), rfl, _, _, rfl, _, _, rfl, rfl, ?_⟩
          have eL7 := n57.l _ _ eLx
          have hz8 := fun (cs : List Addr) (hc : ∀ z ∈ cs, H z ≠ none) => hxy (L :: cs) (fun c h => by
            rcases List.mem_cons.mp h with y | y
            · rw [y, eL7]; exact fun z => nomatch z
            · exact fun z => hc c y (n7.free z))
          have hx8 := fun (cs : List Addr) (hc : ∀ z ∈ cs, H z ≠ none) => (hz8 cs hc).1
          have hy8 := fun (cs : List Addr) (hc : ∀ z ∈ cs, H z ≠ none) => (hz8 cs hc).2
          obtain ⟨kva, eva, _⟩ := hSa.at_
          have k8 := hSa.kpl b8
          have hR := hSt7.put ea1 ei1 ee1 b8 hS8
          rw [hps] at hR
          have eS8 := b8 S _ (ne_of eS7 eva (fun z => nomatch z)) eS7
          have hkl1 := hSt7.kl
          have hst1 := hR.kl
          have hlen1 : kvs1.length ≤ i + 1 := by
            have h1 := hR.kl
            have : (psF st p.deed.nam (doF p.num p.deed (whF st p.deed.nam)).1).length ≤ st.length + 1 := by
              unfold psF
              split
              · rw [List.length_map]; omega
              · rw [List.length_append]; exact Nat.le_refl _
            have : kvs.length = st.length := hSt5.kl
            omega
          refine ⟨x, y, _, kvs1, as1, rfl, eS8, k8.l _ _ eL7, hR, fun b hb => ?_, hlen1, hx8, hy8, (fun cs hc => ((hw cs hc).kpl n57).kpl k8), n7.but b8 ha1, t7.butT b8 eva, k8.l _ _ (n57.l _ _ elx)⟩
          · rcases hfr1 b hb with y | y
            · exact hfr _ y
            · rw [y]; exact nz0
      rintro σ9 H9 ⟨x9, x10, y11', kvs9, as9, rfl, eS9, eL9, hSt9, hfr9, hkl9, hx9, hx10, hw9, n9, t9, el9⟩
      refine ⟨_, rfl, .inl ⟨rfl, _, SqL.of eL9⟩, _, rfl, _, rfl, _, rfl, _, rfl, _, rfl, (by show 5 ≤ sizeLine; decide), fun T nT => ?_⟩
      have sT := same_upd (o := .tup [V.int p.num, .str p.deed.nam, .str (wdF p.deed st), x9, x10]) nT
      have eLT := sT _ _ eL9
      have bL : ButS L (upd H9 T (.tup [V.int p.num, .str p.deed.nam, .str (wdF p.deed st), x9, x10])) (upd (upd H9 T (.tup [V.int p.num, .str p.deed.nam, .str (wdF p.deed st), x9, x10])) L (.lst (ws ++ [.ref T]))) := ButS.upd
      have hst : stepD (pgF p st).2 = .tuple [.int p.num, .str p.deed.nam, .str (wdF p.deed st), .list ((pgF p st).2.short.map pairD), .list ((pgF p st).2.puts.map putD)] := by
        unfold pgF stepD
        by_cases c : wdF p.deed st = "done"
        · rw [if_pos c, c]
        · rw [if_neg c]
      have hT1 : ∀ cs : List Addr, (∀ z ∈ cs, H z ≠ none) → Thg (L :: cs) (upd H9 T (.tup [V.int p.num, .str p.deed.nam, .str (wdF p.deed st), x9, x10])) (.ref T) (stepD (pgF p st).2) := by
        intro cs hc
        rw [hst]
        exact ThgL.tup (.cons (.int _) (.cons (.str _) (.cons (.str _) (.cons ((hx9 cs hc).same sT) (.one ((hx10 cs hc).same sT)))))) upd_same
      have kt : KpL (upd H9 T (.tup [V.int p.num, .str p.deed.nam, .str (wdF p.deed st), x9, x10])) (upd (upd H9 T (.tup [V.int p.num, .str p.deed.nam, .str (wdF p.deed st), x9, x10])) L (.lst (ws ++ [.ref T]))) → True := fun _ => trivial
      refine ⟨L, _, _, rfl, rfl, eLT, small1000 (by omega), kvs9, ws ++ [.ref T], as9, _, _, _, _, _, _, _, _, rfl, ?_, upd_same, ?_, hfr9, ?_, by rw [List.length_append]; show ws.length + 1 ≤ i + 1; omega, hkl9, (n9.trans (NoTab.same sT)).but bL nLH, ?_, ?_⟩
      · exact bL _ _ (ne_of (sT _ _ eS9) eLT (fun z => nomatch z)) (sT _ _ eS9)
      · rw [hgo]
        show StR E SP [L] _ kvs9 (pgF p st).1 as9
        exact (hSt9.same sT).updL (by simp) eLT
      · rw [hgo]
        intro cs hc
        show ThgL (L :: cs) _ _ ((steps ++ [(pgF p st).2]).map stepD)
        rw [List.map_append]
        exact (((hw9 cs hc).same sT).upd eLT (by simp)).append (ThgL.one ((hT1 cs hc).upd eLT (by simp)))
      · exact (t9.same sT).upd eLT
      · rw [upd_ne nlL]
        exact sT _ _ el9
    · obtain ⟨kvs, ws, as, y4, y5, y6, y7, y8, y9, y10, y11, rfl, eSx, eLx, hSt, hfr, hw, hwl, hkl, nx, tx, elx⟩ := hP
      rw [hyl, List.take_length] at hSt hw
      refine ⟨_, rfl, _, rfl, (by show 2 ≤ sizeLine; decide), fun T nT => ?_⟩
      have sT := same_upd (o := .tup [V.ref S, .ref L]) nT
      exact q T S L kvs ws as out _ (nx.free nT) upd_same (sT _ _ eSx) (sT _ _ eLx) hO (hSt.same sT) (fun cs hc => ((((hw cs hc).less (cs' := cs) (fun _ z => List.mem_cons_of_mem _ z)).lst eLx (fun z => hc L z nLH)).same sT)) (nx.trans (NoTab.same sT)) (tx.same sT)
end

theorem walk_W {J : It} {n : Nat} {G : Hp → Prop} {Y : Nat → Hp → V → Hp → Prop} (w : Walk J n G Y) {Bd : V → Hp → (Hp → Prop) → Prop} {Qd : Hp → Prop} {H1 : Hp} (Pv : Nat → Hp → Prop) (h0 : Pv 0 H1) (hG : ∀ i H, i ≤ n → Pv i H → G H) (turn : ∀ i x H H', i < n → Pv i H → Y i H x H' → Bd x H' (Pv (i + 1))) (fin : ∀ H, Pv n H → Qd H) :
    ∃ W : Nat → Nat → Hp → Prop, (∃ m, W 0 m H1) ∧ ∀ i m H, W i m H → (J.stop i H ∧ Qd H) ∨ (J.go i H ∧ ∃ Nx : Hp → Prop, (∀ H', Nx H' → ∃ m', m' < m ∧ W (i + 1) m' H') ∧ ∀ x H', J.yld i H x H' → Bd x H' Nx) := by
  refine ⟨fun i m H => m = n - i ∧ i ≤ n ∧ Pv i H, ⟨n, by simp, Nat.zero_le _, h0⟩, ?_⟩
  rintro i m H ⟨rfl, hi, p⟩
  have q := hG i H hi p
  by_cases lt : i < n
  · exact .inr ⟨w.goes i H lt q, Pv (i + 1), fun H' p' => ⟨n - (i + 1), by omega, rfl, lt, p'⟩, fun x H' y => turn i x H H' lt p (w.yields i H x H' lt q y)⟩
  · obtain rfl : i = n := by omega
    exact .inl ⟨w.stops H q, fin H p⟩


/-! ### cases_at -/
theorem nodup_of_map' {α β : Type} {f : α → β} : ∀ {l : List α}, (l.map f).Nodup → l.Nodup
  | [], _ => List.nodup_nil
  | x :: r, h => by
    obtain ⟨h1, h2⟩ := List.nodup_cons.mp h
    exact List.nodup_cons.mpr ⟨fun z => h1 (List.mem_map.mpr ⟨x, z, rfl⟩), nodup_of_map' h2⟩
theorem valV_at {kvs : List (List L2.Key × V)} (nd : (kvs.map (·.1)).Nodup) {j : Nat} {k : List L2.Key} {v : V} (e : kvs[j]? = some (k, v)) : valV kvs k = some v := by
  have := find_nd nd e
  unfold valV
  rw [this]
  rfl
/-- the stretches of the first spots with a word -/
structure StcP (E : List Int) (W : Whr) (wd : Str) (ks : List Spt) (qs : Prs2) : Prop where
  nd : (qs.map (·.1)).Nodup
  inE : ∀ r ∈ qs, r.1 ∈ E ∧ ∃ sp ∈ ks, W r.1 = some sp
  same : ∀ n, InS qs n ↔ ∃ sp ∈ ks, wdOf sp = wd ∧ W n = some sp
theorem StcP.len {E : List Int} {W : Whr} {wd : Str} {ks : List Spt} {qs : Prs2} (h : StcP E W wd ks qs) : qs.length ≤ E.length := by
  have := sub_len h.nd (ys := E) fun x hx => by
    obtain ⟨r, hr, rfl⟩ := List.mem_map.mp hx
    exact (h.inE r hr).1
  rwa [List.length_map] at this
theorem first_in {E : List Int} {p : Int → Prop} {rs : Prs2} (h : ChP E p) (t : Told p rs) : ∀ r ∈ rs, r.1 ∈ E ∧ p r.1 := fun r hr => by
  obtain ⟨lo, hR⟩ := t.ris
  have h1 : p r.1 := (t.same r.1).mp ⟨r, hr, Int.le_refl _, (Ris.le hR r hr).2⟩
  refine ⟨Decidable.byContradiction fun hn => ?_, h1⟩
  exact (ris_gap1 hR).2 r hr ((t.same _).mpr ((h r.1 hn).mp h1))
theorem StcP.more {E : List Int} {W : Whr} {wd : Str} {ks : List Spt} {qs rs : Prs2} {sp : Spt} (h : StcP E W wd ks qs) (hW : ChW E W) (hn : sp ∉ ks) (hw : wdOf sp = wd) (t : Told (SetAt W sp) rs) : StcP E W wd (ks ++ [sp]) (qs ++ rs) := by
  obtain ⟨lo, hR⟩ := t.ris
  have hf := first_in (hW.set sp) t
  refine ⟨?_, fun r hr => ?_, fun n => ?_⟩
  · rw [List.map_append]
    refine List.nodup_append.mpr ⟨h.nd, (ris_gap1 hR).1, fun a ha b hb => ?_⟩
    obtain ⟨r, hr, rfl⟩ := List.mem_map.mp ha
    obtain ⟨r2, hr2, rfl⟩ := List.mem_map.mp hb
    intro e
    obtain ⟨_, sp', h1, h2⟩ := h.inE r hr
    have h3 : W r2.1 = some sp := (hf r2 hr2).2
    have e : r.1 = r2.1 := e
    rw [e, h3] at h2
    cases h2
    exact hn h1
  · rcases List.mem_append.mp hr with z | z
    · obtain ⟨a, sp', b, c⟩ := h.inE r z
      exact ⟨a, sp', List.mem_append_left _ b, c⟩
    · exact ⟨(hf r z).1, sp, List.mem_append_right _ (List.mem_singleton.mpr rfl), (hf r z).2⟩
  · rw [inS_append, h.same, t.same]
    constructor
    · rintro (⟨s, h1, h2, h3⟩ | z)
      · exact ⟨s, List.mem_append_left _ h1, h2, h3⟩
      · exact ⟨sp, List.mem_append_right _ (List.mem_singleton.mpr rfl), hw, z⟩
    · rintro ⟨s, h1, h2, h3⟩
      rcases List.mem_append.mp h1 with z | z
      · exact .inl ⟨s, z, h2, h3⟩
      · rw [List.mem_singleton.mp z] at h3
        exact .inr h3
theorem StcP.skip {E : List Int} {W : Whr} {wd : Str} {ks : List Spt} {qs : Prs2} {sp : Spt} (h : StcP E W wd ks qs) (hw : wdOf sp ≠ wd) : StcP E W wd (ks ++ [sp]) qs := by
  refine ⟨h.nd, fun r hr => ?_, fun n => ?_⟩
  · obtain ⟨a, sp', b, c⟩ := h.inE r hr
    exact ⟨a, sp', List.mem_append_left _ b, c⟩
  · rw [h.same]
    constructor
    · rintro ⟨s, h1, h2, h3⟩
      exact ⟨s, List.mem_append_left _ h1, h2, h3⟩
    · rintro ⟨s, h1, h2, h3⟩
      rcases List.mem_append.mp h1 with z | z
      · exact ⟨s, z, h2, h3⟩
      · rw [List.mem_singleton.mp z] at h2
        exact absurd h2 hw
def AtWd (W : Whr) (wd : Str) : Int → Prop := fun n => ∃ sp, wdOf sp = wd ∧ W n = some sp
theorem AtWd.ch {E : List Int} {W : Whr} (h : ChW E W) (wd : Str) : ChP E (AtWd W wd) := fun n hn => by
  unfold AtWd
  rw [h n hn]
/-- the spots of the first keys -/
theorem spots_ex {SP : List Spt} {cs : List Addr} {H : Hp} {kvs : List (List L2.Key × V)} {W : Whr} (h : StoK SP cs H kvs W) : ∃ ks : List Spt, kvs.map (·.1) = ks.map keyOf := by
  have : ∀ l : List (List L2.Key × V), (∀ e ∈ l, ∃ sp, e.1 = keyOf sp) → ∃ ks : List Spt, l.map (·.1) = ks.map keyOf := fun l => by
    induction l with
    | nil => intro _; exact ⟨[], rfl⟩
    | cons e r ih =>
      intro hh
      obtain ⟨ks, e1⟩ := ih fun x hx => hh x (List.mem_cons_of_mem _ hx)
      obtain ⟨sp, e2⟩ := hh e (List.mem_cons_self ..)
      exact ⟨sp :: ks, by rw [List.map_cons, List.map_cons, e1, e2]⟩
  exact this kvs fun e he => let ⟨sp, _, _, _, h2, _⟩ := h.ent e he; ⟨sp, h2⟩
def spCasesAt (K : PySem.W.Frag) : Sp := fun vs H Q _ => ∃ (s : Addr) (wd : Str) (E : List Int) (SP : List Spt) (cs : List Addr) (W : Whr), vs = [.ref s, .str wd] ∧ Sto E SP cs H s W ∧
  ∀ l rs H', H l = none → LsA H' l rs → Told (AtWd W wd) rs → Same H H' → Q (.ref l) H'
abbrev sCasesAt : Stmt := topS 16
theorem scCasesAt : FnScope ["store", "word", "spot", "stretch"] ["store", "word"] (defScope sCasesAt) := ⟨rfl, rfl, rfl, by decide +kernel, rfl, by decide +kernel, by decide +kernel⟩
section
variable {K : PySem.W.Frag} {mg : Str → Option Value} {P : Program} {w : World} {base : Heap}
theorem ok_CasesAt {f : Addr} {fd : FuncData} (F : Fun K "cases_at" "cases_at" sCasesAt f fd) (C_set_of : Cal P w K mg base 1 "set_of" ["pairs"] (spSetOf K)) : FnOk P w K mg base CX0 2 f fd ["store", "word"] (spCasesAt K) := by
  refine F.ok scCasesAt (fun vs H Q E h => ?_) (fun cdv A outer s H vs Q E hr h => ?_)
  · obtain ⟨s, wd, E, SP, cs, W, rfl, _⟩ := h
    rfl
  · obtain ⟨s, wd, E, SP, cs, W, rfl, hS, q⟩ := h
    refine ⟨_, pss_one (ps_ret (pe_own C_set_of hr (by rfl) (pa_cons (pe_lock (pe_lc2 (own := [("spot", 2), ("stretch", 3)]) (vs1 := [3]) (g := gName 2) (tt := tTest (tOp rEq (tOp (rIxT K) (tVar 2) (tC (.int 0))) (tVar 1))) (wi1 := iList K (tDGet (tVar 0) (tVar 2))) (g1 := gName 3) (tt1 := tYes) (te := tVar 3) rfl scCasesAt.nd (pi_keys (pv 0)) (blkOk_by (own := [("spot", 2), ("stretch", 3)]) (N := ["store", "word", "spot", "stretch"]) (sc := defScope sCasesAt) (by decide +kernel)) (by decide) (fun _ _ _ _ _ => pg_name (i := 2) scCasesAt.nd rfl (.inl rfl)) (fun _ _ _ _ _ => pts_one (pt_cmpR op_eq (pe_ix ix_tup (pv 2) pe_int (fun _ _ => rfl)) (pv 1) (nomark _))) (fun _ _ _ _ _ => pi_list (pe_dget (hu_of hr) (pv 0) (pv 2) (fun _ _ => rfl))) (fun _ _ _ _ _ => pg_name (i := 3) scCasesAt.nd rfl (.inl rfl)) (fun _ _ _ _ _ => pts_nil) (fun _ _ _ _ _ => pv 3))) pa_nil))), ?_⟩
    obtain ⟨kvs, es, hk⟩ := hS.at_
    obtain ⟨ks, eks⟩ := spots_ex hk
    have hkl := hk.len
    have h300 := hS.el
    have h1000 := hS.sl
    have ndk : ks.Nodup := by
      have := hk.nd
      rw [eks] at this
      exact nodup_of_map' this
    refine ⟨s, _, es, True.intro, fun od => ⟨_, rfl, s, od, rfl, .inr ⟨kvs, upd_same, fun D nD => ?_⟩⟩⟩
    have eDs : D ≠ s := fun y => by rw [y, upd_same] at nD; cases nD
    have kf : KpL H (upd H s (.frz od (.dT kvs))) := (ButS.upd (o := .frz od (.dT kvs))).kpl es
    refine walk_W walk_keysT (fun j H' => Same (upd H s (.frz od (.dT kvs))) H' ∧ ∃ zs qs, H' D = some (.lst zs) ∧ Prs H' zs qs ∧ StcP E W wd (ks.take j) qs) ⟨same_upd nD, [], [], upd_same, Prs.nil, ⟨List.nodup_nil, (fun r hr => nomatch hr), fun n => ⟨fun y => absurd y inS_nil, fun ⟨_, z, _⟩ => nomatch z⟩⟩⟩ (fun j H' _ hP => hP.1 _ _ upd_same) (fun j x H' H'' hj hP hy => ?_) (fun H' hP => ?_)
    · obtain ⟨sm, zs, qs, eD, hz, hq⟩ := hP
      obtain ⟨rfl, key, v, q0, ek, rfl, eq⟩ := hy
      have hjk : j < kvs.length := (List.getElem?_eq_some_iff.mp ek).1
      obtain ⟨sp, l, rs, hsp, e2, e3, hl, ht, _⟩ := hk.ent _ (List.mem_of_getElem? ek)
      obtain rfl : key = keyOf sp := e2
      obtain rfl : v = .ref l := e3
      obtain ⟨us0, el0, _⟩ := id hl
      obtain ⟨_, _, _, e0⟩ := lk_entry hk ek
      have eks' : ks[j]? = some sp := by
        have := congrArg (fun l => l[j]?) eks
        have : (kvs.map (·.1))[j]? = (ks.map keyOf)[j]? := this
        rw [List.getElem?_map, List.getElem?_map, ek] at this
        obtain ⟨sp', h1, h2⟩ := Option.map_eq_some_iff.mp this.symm
        rw [h1, keyOf_inj h2]
      have etk : ks.take (j + 1) = ks.take j ++ [sp] := by rw [List.take_add_one, eks']; rfl
      have hnot : sp ∉ ks.take j := fun y => by
        obtain ⟨i, ei⟩ := List.getElem?_of_mem y
        have hi : i < j := by
          have := (List.getElem?_eq_some_iff.mp ei).1
          rw [List.length_take] at this
          omega
        rw [List.getElem?_take_of_lt hi] at ei
        have : i = j := (List.getElem_inj (h₀ := (List.getElem?_eq_some_iff.mp ei).1) (h₁ := (List.getElem?_eq_some_iff.mp eks').1) ndk).mp (by rw [(List.getElem?_eq_some_iff.mp ei).2, (List.getElem?_eq_some_iff.mp eks').2])
        omega
      obtain ⟨us, el, hus⟩ := (hl.kpl kf).same sm
      have hql := hq.len
      have hrl := (hS.ch.set sp).few ht
      have e0' : atI ((keyOf sp).map kV) 0 = some (.str (wdOf sp)) := by
        cases sp <;> exact atI_nat (j := 0) rfl
      refine ⟨rfl, _, rfl, q0, _, 0, _, rfl, rfl, .inl (.inl eq), e0', _, rfl, rfl, _, rfl, ite2 (fun c => ?_) (fun c => ?_)⟩
      · have hw : wdOf sp = wd := V.str.inj (of_decide_eq_true c)
        have hg : DGet H'' s (.ref q0) (some (.ref l)) := .inr ⟨kvs, keyOf sp, q0, .inr ⟨od, sm _ _ upd_same⟩, rfl, eq, (valV_at hk.nd ek).symm⟩
        refine ⟨_, rfl, _, rfl, s, .ref l, rfl, hg, l, rfl, ⟨_, SqL.of el⟩, walk_W (walk_list (xs := us)) (fun i H1 => Same (upd H s (.frz od (.dT kvs))) H1 ∧ H1 D = some (.lst (zs ++ us.take i)) ∧ Prs H1 zs qs ∧ LsA H1 l rs ∧ H1 l = some (.lst us)) ⟨sm, by rw [List.take_zero, List.append_nil]; exact eD, hz, ⟨us, el, hus⟩, el⟩ (fun i H1 _ hP => SqL.of hP.2.2.2.2) (fun i x H1 H1' hi0 hP hy => ?_) (fun H1 hP => ?_)⟩
        · obtain ⟨rfl, hx2⟩ := hy
          obtain ⟨g1, g2, g3, ⟨us', g4, g5⟩, g6⟩ := hP
          have nDl : D ≠ l := fun y => by
            have e5 := kf.l _ _ el0
            rw [← y, nD] at e5
            cases e5
          have hi : i < us.length := (List.getElem?_eq_some_iff.mp hx2).1
          have hul := hus.1
          have hzl := hz.1
          refine ⟨rfl, _, rfl, _, g2, by rw [sizeLine_eq, List.length_append, List.length_take]; omega, fun b o eb => ?_, ?_, g3.upd_lst g2, ⟨us', ?_, g5.upd_lst g2⟩, ?_⟩
          · rw [upd_ne (ne_of_none eb nD)]
            exact g1 b o eb
          · rw [upd_same, List.take_add_one, hx2, List.append_assoc]
            rfl
          · rw [upd_ne nDl.symm]; exact g4
          · rw [upd_ne nDl.symm]; exact g6
        · obtain ⟨g1, g2, g3, ⟨us', g4, g5⟩, g6⟩ := hP
          rw [g6] at g4
          cases g4
          rw [List.take_length] at g2
          refine ⟨g1, zs ++ us, qs ++ rs, g2, g3.append g5, ?_⟩
          rw [etk]
          exact hq.more hS.ch hnot hw ht
      · refine ⟨sm, zs, qs, eD, hz, ?_⟩
        rw [etk]
        exact hq.skip fun y => c (decide_eq_true (congrArg V.str y))
    obtain ⟨sm, zs, qs, eD, hz, hq⟩ := hP
    have hkk : ks.length = kvs.length := by
      have := congrArg List.length eks
      rw [List.length_map, List.length_map] at this
      exact this.symm
    rw [← hkk, List.take_length] at hq
    refine ⟨sm _ _ upd_same, ?_⟩
    have sU : Same H (upd H' s (.dT kvs)) := fun a o ea => by
      by_cases y : a = s
      · rw [y, upd_same]
        rw [y, es] at ea
        exact ea
      · rw [upd_ne y]
        exact sm _ _ (by rw [upd_ne y]; exact ea)
    have eDU : upd H' s (.dT kvs) D = some (.lst zs) := by rw [upd_ne eDs]; exact eD
    have hzU : Prs (upd H' s (.dT kvs)) zs qs := ⟨hz.1, fun i p ep => let ⟨a, e1, e2⟩ := hz.2 i p ep; ⟨a, e1, by
      have : a ≠ s := fun y => by rw [y, sm _ _ upd_same] at e2; cases e2
      rw [upd_ne this]; exact e2⟩⟩
    have hql := hq.len
    refine ⟨D, zs, qs, rfl, Sq.list eDU, hzU, by omega, fun l2 ws2 rs2 H3 nl2 el2 hws2 hset s3 => ?_⟩
    refine q l2 rs2 H3 (sU.free nl2) ⟨ws2, el2, hws2⟩ (hset.told.cong fun n => ?_) (sU.trans s3)
    rw [hq.same]
    constructor
    · rintro ⟨sp, _, h2, h3⟩
      exact ⟨sp, h2, h3⟩
    · rintro ⟨sp, h2, h3⟩
      obtain ⟨e, he, ee⟩ := hk.all n sp h3
      have hm : keyOf sp ∈ ks.map keyOf := by rw [← eks, ← ee]; exact List.mem_map.mpr ⟨e, he, rfl⟩
      obtain ⟨sp', h1, h4⟩ := List.mem_map.mp hm
      rw [keyOf_inj h4] at h1
      exact ⟨sp, h1, h2, h3⟩
end

/-! ### several dicts locked at once; the items of a dict by tuples -/
/-- so many dicts are locked while this is told -/
def tLockN : List (Addr × HO) → TE → TE
  | [], t => t
  | (d, u) :: r, t => fun σ H Q => H d = some u ∧ Mut (some u) ∧ ∀ od, tLockN r t σ (upd H d (.frz od u)) fun v H' => H' d = some (.frz od u) ∧ Q v (upd H' d u)
theorem pe_lockN {X : Cx} {e : Expr} {t : TE} (h : PE X e t) : ∀ ds, PE X e (tLockN ds t)
  | [] => h
  | (d, u) :: r => ⟨fun pins s σ H Q I ⟨h1, h2, h3⟩ => (pe_lock (pe_lockN h r)).run pins s σ H Q I ⟨d, u, h1, h2, h3⟩⟩
def tLocks (t : TE) : TE := fun σ H Q => ∃ ds, tLockN ds t σ H Q
theorem pe_locks {X : Cx} {e : Expr} {t : TE} (h : PE X e t) : PE X e (tLocks t) := ⟨fun pins s σ H Q I ⟨ds, w⟩ => (pe_lockN h ds).run pins s σ H Q I w⟩
/-- the pairs of a dict by tuples, each a new tuple -/
def ItiT (d : Addr) (o : Obj) (kvs : List (List Key × V)) : It :=
  ⟨fun i H => H d = some (.frz o (.dT kvs)) ∧ i < kvs.length, fun i H x H' => ∃ T k v q, kvs[i]? = some (k, v) ∧ x = .ref T ∧ H T = none ∧ H' = upd H T (.tup [.ref q, v]) ∧ H q = some (.tup (k.map kV)), fun i H => H d = some (.frz o (.dT kvs)) ∧ kvs.length ≤ i⟩
theorem frzT2 {X : Cx} {pins : List (Addr × Obj)} {σ : L2.St} {H : Hp} {s : Shared} {d : Addr} {o : Obj} {kvs : List (List Key × V)} (I : Inv X pins σ H s) (h : H d = some (.frz o (.dT kvs))) :
    (d == sysModules) = false ∧ s.heap.get? d = some o ∧ o.ExactDict ∧ ∃ (es : Array DictEntry) (ep : Nat), o.data = .dict es ep ∧ es.size = kvs.length ∧
      ∀ (i : Nat) (k : List Key) (v : V), kvs[i]? = some (k, v) → ∃ (en : DictEntry) (q : Addr), es[i]? = some en ∧ en.key = .ref q ∧ H q = some (.tup (k.map kV)) ∧ RelV v en.val := by
  obtain ⟨hd, z, hs, xs, pr, o', es, ep, ho, hx, hdt, he, _⟩ := I.hok d _ h
  rw [hd] at ho
  cases ho
  refine ⟨hs, hd, hx, es, ep, hdt, ?_, fun i k v e => ?_⟩
  · have l1 : es.size = xs.length := size_of_entries he
    have l2 : kvs.length = xs.length := Paired.length pr
    omega
  · obtain ⟨b, hb, e1, e2, e3⟩ := paired_get pr e
    have q := entry_at he i
    rw [hb] at q
    exact ⟨_, b.2.1, q, rfl, e2, e3⟩
theorem turn_itemsT {P : Program} {w : World} {K : PySem.W.Frag} {d : Addr} {o : Obj} {es : Array DictEntry} {ep : Nat} {kvs : List (List Key × V)} {elts : List Expr} {kk : Nat} {tpos : Pos} (it : Addr) (hod : o.data = .dict es ep) :
    Turn P w K (.Tuple elts kk tpos) (ItiT d o kvs) [it] it (fun i h => ∃ ok ov, IsItemIter h it d i kvs.length ep ok ov) where
  mem := by simp
  obj := fun i h st b hb => by
    have e : b = it := by simpa using hb
    subst e
    obtain ⟨ok, ov, e⟩ := st
    exact ⟨_, e, fun v z => nomatch z⟩
  keep := fun i h h' st k => let ⟨ok, ov, e⟩ := st; ⟨ok, ov, k it (by simp) _ e⟩
  item := by
    intro X hP hw hK hc i pins s σ H E I hf st hg
    subst hP hw hK
    obtain ⟨hd, hi⟩ := hg
    obtain ⟨hs, hgd, hx, es', ep', hdt, hsz, ent⟩ := frzT2 I hd
    obtain ⟨rfl, rfl⟩ := dict_ep hod hdt
    obtain ⟨⟨k, v⟩, hkv⟩ : ∃ p, kvs[i]? = some p := ⟨kvs[i], List.getElem?_eq_getElem hi⟩
    obtain ⟨en, q, hen, hkey, hq, ru⟩ := ent i k v hkv
    obtain ⟨ok, ov, he⟩ := st
    rw [← hsz] at he
    have hi' : i < es'.size := by omega
    have een : es'[i] = en := by
      rw [Array.getElem?_eq_getElem hi'] at hen
      exact Option.some.inj hen
    have hlt : it < s.heap.objs.size := Heap.lt_size he
    refine DT.nextI he ⟨o, hgd, hx, hdt⟩ hi' fun h' ho hT hz hk => ?_
    rw [een, hkey] at ho hT
    refine ⟨_, rfl, wpAny_letOwnedTupleGo_items (s := { s with heap := h' }) ho fun h'' he' sb => ?_⟩
    have hT2 : h''.get? s.heap.objs.size = some { cls := .type "tuple", data := .seq #[.ref q, en.val] } := (sb.2 _ (Nat.ne_of_gt hlt)).trans hT
    have new : ObjOk X.prog X.w (upd H s.heap.objs.size (.tup [.ref q, v])) h'' s.heap.objs.size (.tup [.ref q, v]) :=
      ⟨by show 2 ≤ sizeLine; decide, [.ref q, en.val], .cons rfl (.cons ru .nil), ⟨_, hT2, rfl, _, rfl⟩⟩
    have I1 : Inv X pins σ (upd H s.heap.objs.size (.tup [.ref q, v])) { s with heap := h'' } :=
      I.turnedNew (t' := s.toks) (ch := [it]) (fun b ob hb e => (sb.2 b (by simpa using hb)).trans (hk b ob (by simpa using hb) e)) hf (Nat.le_refl _) new
    refine ⟨.ref s.heap.objs.size, _, I1, rfl, ⟨_, k, v, q, hkv, rfl, I.hok.fresh (Nat.le_refl _), rfl, hq⟩, ⟨.ref q, en.val, ?_⟩, fun b hb => ?_⟩
    · rw [← hsz]; exact he'
    · have e : b = it := by simpa using hb
      rw [e, upd_ne (Nat.ne_of_lt hlt)]
      exact (hf it (by simp)).1
  done := by
    intro X hP hw hK hc i pins s σ H E I hf st hg
    subst hP hw hK
    obtain ⟨hd, hi⟩ := hg
    obtain ⟨f0, f1, f2, f3, f4, f5⟩ := hf it (by simp)
    obtain ⟨hs, hgd, hx, es', ep', hdt, hsz, ent⟩ := frzT2 I hd
    obtain ⟨rfl, rfl⟩ := dict_ep hod hdt
    obtain ⟨ok, ov, he⟩ := st
    rw [← hsz] at he
    exact DT.endI (I.ok.hd hc) he ⟨o, hgd, hx, hdt⟩ (by omega) fun h' eb => ⟨rfl, I.turned (t' := s.toks) (fun b ob hb e => eb b ob hb e) f0 f1 f3 f4 f5⟩
  self := fun A i s Q E st h => let ⟨_, _, e⟩ := st; PySem.W.kcp_self e h
def iItemsT (td : TE) : TI := fun σ H R => td σ H fun x H1 => ∃ d o kvs, x = .ref d ∧ H1 d = some (.frz o (.dT kvs)) ∧ R (ItiT d o kvs) H1
theorem pi_itemsT {X : Cx} {e : Expr} {td : TE} {apos cpos : Pos} {elts : List Expr} {kk : Nat} {tpos : Pos} (he : PE X e td) (hbase : attributeBase e "items" X.env (eval e X.env) = eval e X.env := by rfl) (hline : (apos.endLine == cpos.line) = true := by rfl) :
    PI X (.Tuple elts kk tpos) (.Call (.Attribute e "items" apos) [] [] cpos) (iItemsT td) := by
  refine ⟨fun pins s σ H R I h => ?_⟩
  refine wpAny_Call_method (T := "dict") (id := "dict.items") hbase rfl hline PySem.F.plainAttrs_dict PySem.F.slot_dict_items PySem.F.type_dict_items (thn (he.run pins s σ H _ I h) fun u s1 ⟨x, H1, I1, rx, d, o, kvs, ex, hd, q⟩ => ?_)
  subst ex
  obtain rfl : u = Value.ref d := rx
  obtain ⟨hs, hgd, hx, es, ep, hdt, hsz, ent⟩ := frzT2 I1 hd
  have hm : DT.Raw s1.heap d es ep := ⟨o, hgd, hx, hdt⟩
  refine ⟨hm.typeIs, (fun a e => by cases e; exact ⟨o, hgd, hx.2.1⟩), ?_⟩
  have I2 : Inv X pins σ H1 { s1 with heap := s1.heap.push { cls := .type "dict_items", data := .fields #[.ref d] } } := I1.kept (t' := s1.toks) fun b ob q => Heap.get?_push_of_some _ q
  have fin : wpAny (model X.prog X.w) X.A (pyIter (.ref s1.heap.objs.size)) (PIE X pins σ (.Tuple elts kk tpos) R) X.xe { s1 with heap := s1.heap.push { cls := .type "dict_items", data := .fields #[.ref d] } } := by
    refine DT.iterI (d := d) ⟨_, Heap.get?_push_size _ rfl, rfl, rfl⟩ (hm.push _) (pi_one (tk := s1.toks) I2 _ (turn_itemsT _ hdt) ⟨.none, .none, ?_⟩ q)
    rw [← hsz]
    exact Heap.get?_push_size _ rfl
  show wpAny _ _ (callWith cpos (.builtin "dict.items") [.ref d] [] []) _ X.xe s1
  exact method_meetsIn PySem.F.slot_dict_items PySem.F.entry_dict_items rfl (PySem.evalArgs_none ⟨rfl, hm.typeIs, PySem.F.args_dict_items_1 _, _, DT.meetsItems (es := es) (ep := ep) hs, hm, fin⟩)
theorem walk_itemsT {d : Addr} {o : Obj} {kvs : List (List Key × V)} : Walk (ItiT d o kvs) kvs.length (fun H => H d = some (.frz o (.dT kvs))) (fun i H x H' => ∃ T k v q, kvs[i]? = some (k, v) ∧ x = .ref T ∧ H T = none ∧ H' = upd H T (.tup [.ref q, v]) ∧ H q = some (.tup (k.map kV))) :=
  ⟨fun _ _ hi q => ⟨q, hi⟩, fun _ q => ⟨q, Nat.le_refl _⟩, fun _ _ _ _ _ _ y => y⟩

/-! ### sorted of tuples that begin with keys (whole numbers, texts) -/
namespace SrtK
open PySem PyProof.Rows SrtO PySem.W
def kltB : L2.Key → L2.Key → Bool
  | .inl a, .inl b => decide (a < b)
  | .inl _, .inr _ => true
  | .inr _, .inl _ => false
  | .inr a, .inr b => decide (a.cps.toList < b.cps.toList)
theorem str_tot {a b : PySem.Str} (h1 : ¬ a.cps.toList < b.cps.toList) (h2 : ¬ b.cps.toList < a.cps.toList) : a = b := by
  have e : a.cps.toList = b.cps.toList := List.le_antisymm (List.not_lt.mp h2) (List.not_lt.mp h1)
  cases a
  cases b
  exact congrArg PySem.Str.mk (Array.toList_inj.mp e)
theorem kltB_irr (a : L2.Key) : kltB a a = false := by
  cases a with
  | inl a => exact decide_eq_false (Int.lt_irrefl a)
  | inr a => exact decide_eq_false (List.lt_irrefl a.cps.toList)
theorem kltB_asym {a b : L2.Key} (h : kltB a b = true) : kltB b a = false := by
  cases a with
  | inl a =>
    cases b with
    | inl b => exact decide_eq_false (by have := of_decide_eq_true h; omega)
    | inr b => rfl
  | inr a =>
    cases b with
    | inl b => cases h
    | inr b => exact decide_eq_false (fun z => List.lt_irrefl a.cps.toList (List.lt_trans (of_decide_eq_true h) z))
theorem kltB_tr {a b c : L2.Key} (h1 : kltB b a = false) (h2 : kltB c b = false) : kltB c a = false := by
  cases a with
  | inl a =>
    cases b with
    | inl b =>
      cases c with
      | inl c => exact decide_eq_false (by have := of_decide_eq_false h1; have := of_decide_eq_false h2; omega)
      | inr c => rfl
    | inr b =>
      cases c with
      | inl c => cases h2
      | inr c => rfl
  | inr a =>
    cases b with
    | inl b => cases h1
    | inr b =>
      cases c with
      | inl c => cases h2
      | inr c => exact decide_eq_false (List.not_lt.mpr (List.le_trans (List.not_lt.mp (of_decide_eq_false h1)) (List.not_lt.mp (of_decide_eq_false h2))))
theorem kltB_tot {a b : L2.Key} (h1 : kltB a b = false) (h2 : kltB b a = false) : a = b := by
  cases a with
  | inl a =>
    cases b with
    | inl b => exact congrArg Sum.inl (by have := of_decide_eq_false h1; have := of_decide_eq_false h2; omega)
    | inr b => cases h1
  | inr a =>
    cases b with
    | inl b => cases h2
    | inr b => exact congrArg Sum.inr (str_tot (of_decide_eq_false h1) (of_decide_eq_false h2))
def lexK : List L2.Key → List L2.Key → Bool
  | [], [] => false
  | [], _ :: _ => true
  | _ :: _, [] => false
  | a :: r, b :: s => if a = b then lexK r s else kltB a b
theorem lexK_irr : ∀ x : List L2.Key, lexK x x = false
  | [] => rfl
  | a :: r => by rw [lexK, if_pos rfl]; exact lexK_irr r
theorem lexK_asym : ∀ {x y : List L2.Key}, lexK x y = true → lexK y x = false
  | [], [], h => by cases h
  | [], _ :: _, _ => rfl
  | _ :: _, [], h => by cases h
  | a :: r, b :: s, h => by
    rw [lexK] at h ⊢
    by_cases e : a = b
    · rw [if_pos e] at h
      rw [if_pos e.symm]
      exact lexK_asym h
    · rw [if_neg e] at h
      rw [if_neg (fun z => e z.symm)]
      exact kltB_asym h
theorem lexK_tr : ∀ {x y z : List L2.Key}, lexK y x = false → lexK z y = false → lexK z x = false
  | [], [], [], _, _ => rfl
  | [], [], _ :: _, _, _ => rfl
  | [], _ :: _, [], _, h => by cases h
  | [], _ :: _, _ :: _, _, _ => rfl
  | _ :: _, [], _, h, _ => by cases h
  | _ :: _, _ :: _, [], _, h => by cases h
  | a :: x, b :: y, c :: z, h1, h2 => by
    rw [lexK] at h1 h2 ⊢
    by_cases e1 : b = a
    · subst e1
      rw [if_pos rfl] at h1
      by_cases e2 : c = b
      · subst e2
        rw [if_pos rfl] at h2 ⊢
        exact lexK_tr h1 h2
      · rw [if_neg e2] at h2 ⊢
        exact h2
    · rw [if_neg e1] at h1
      by_cases e2 : c = b
      · subst e2
        rw [if_neg e1]
        exact h1
      · rw [if_neg e2] at h2
        by_cases e3 : c = a
        · subst e3
          exact absurd (kltB_tot h1 h2) e1
        · rw [if_neg e3]
          exact kltB_tr h1 h2
theorem lexK_tot : ∀ {x y : List L2.Key}, lexK x y = false → lexK y x = false → x = y
  | [], [], _, _ => rfl
  | [], _ :: _, h, _ => by cases h
  | _ :: _, [], _, h => by cases h
  | a :: x, b :: y, h1, h2 => by
    rw [lexK] at h1 h2
    by_cases e : a = b
    · subst e
      rw [if_pos rfl] at h1 h2
      rw [lexK_tot h1 h2]
    · rw [if_neg e] at h1
      rw [if_neg (fun z => e z.symm)] at h2
      exact absurd (kltB_tot h1 h2) e
theorem swo_key {α : Type} (k : α → List L2.Key) : Swo fun x y => lexK (k x) (k y) := ⟨fun _ _ h => lexK_asym h, fun _ _ _ h1 h2 => lexK_tr h1 h2⟩
/-- of what kind: a whole number, or a text -/
def isI : L2.Key → Bool
  | .inl _ => true
  | .inr _ => false
def tyK (b : Bool) : Value := if b then .type "int" else .type "str"
/-- a tuple that begins with these keys -/
def Keyed (h : Heap) (v : Value) (ks : List L2.Key) : Prop := ∃ a o xs n us rest, v = .ref a ∧ h.get? a = some o ∧ o.cls = .type "tuple" ∧ o.data = .seq xs n ∧ xs.toList = us ++ rest ∧ L2.Vals (ks.map L2.kV) us
theorem Keyed.keeps {h h' : Heap} {v : Value} {ks : List L2.Key} (x : Keyed h v ks) (k : ∀ b o, h.get? b = some o → o.cls = .type "tuple" → h'.get? b = some o) : Keyed h' v ks := by
  obtain ⟨a, o, xs, n, us, rest, e, ho, hc, r⟩ := x
  exact ⟨a, o, xs, n, us, rest, e, k _ _ ho hc, hc, r⟩
section
variable {prog : Program} {w : World} {A : Around} {E : Value → Shared → Prop} {s : Shared} {b fin : Bool} {Q : Bool → Shared → Prop}
theorem oneLt_strs (c : Bool) {x y : PySem.Str} {t u : Tok} (h : Q (decide (x.cps.toList < y.cps.toList)) s) : wpAny (model prog w) A (oneLt' c (.str x t) (.str y u)) Q E s := by
  cases c with
  | true => exact oneLt_str h
  | false => exact kat_one _ _ (PyProof.Rows.lt_str h)
theorem kat_self : ∀ (xs : List Value) (i : Nat), Q fin s → KatLex prog w A b fin Q (xs.zip xs) i s
  | [], i, h => kat_nil h
  | x :: r, i, h => by
    rw [List.zip_cons_cons]
    exact kat_cons (SeqAt.EqAt.same x prog w _ _ (kat_yes (kat_self r (i + 1) h)))
theorem kat_keys : ∀ (ks ls : List L2.Key) (us ws rest rest' : List Value) (i : Nat), L2.Vals (ks.map L2.kV) us → L2.Vals (ls.map L2.kV) ws → ks.map isI = ls.map isI → ks ≠ ls → Q (lexK ks ls) s → KatLex prog w A b fin Q ((us ++ rest).zip (ws ++ rest')) i s
  | [], [], _, _, _, _, _, _, _, _, ne, _ => absurd rfl ne
  | [], _ :: _, _, _, _, _, _, _, _, e, _, _ => nomatch e
  | _ :: _, [], _, _, _, _, _, _, _, e, _, _ => nomatch e
  | k :: ks, l :: ls, us, ws, rest, rest', i, h1, h2, e, ne, hq => by
    cases h1 with
    | cons r1 v1 =>
      cases h2 with
      | cons r2 v2 =>
        rename_i u us' x ws'
        rw [List.cons_append, List.cons_append, List.zip_cons_cons]
        have e' : isI k = isI l ∧ ks.map isI = ls.map isI := ⟨(List.cons.inj e).1, (List.cons.inj e).2⟩
        have more : k = l → KatLex prog w A b fin Q ((us' ++ rest).zip (ws' ++ rest')) (i + 1) s := fun z => by
          subst z
          refine kat_keys ks ls us' ws' rest rest' (i + 1) v1 v2 e'.2 (fun y => ne (by rw [y])) ?_
          rw [lexK, if_pos rfl] at hq
          exact hq
        cases k with
        | inl x1 =>
          cases l with
          | inr _ => exact nomatch (show _ = _ from e'.1)
          | inl x2 =>
            obtain ⟨t1, rfl⟩ := r1
            obtain ⟨t2, rfl⟩ := r2
            refine kat_cons (SeqAt.EqAt.int_int x1 t1 x2 t2 prog w _ _ (kat_go (fun z => kat_yes (more ?_)) (fun z => kat_no (TS.oneLt_ints _ ?_))))
            · exact congrArg Sum.inl (by simpa using z)
            · have nz : ¬ x1 = x2 := by simpa using z
              rw [lexK, if_neg (fun y => nz (Sum.inl.inj y))] at hq
              exact hq
        | inr x1 =>
          cases l with
          | inl _ => exact nomatch (show _ = _ from e'.1)
          | inr x2 =>
            obtain ⟨t1, rfl⟩ := r1
            obtain ⟨t2, rfl⟩ := r2
            refine kat_cons (SeqAt.EqAt.str_str x1 t1 x2 t2 prog w _ _ (kat_go (fun z => kat_yes (more ?_)) (fun z => kat_no (oneLt_strs _ ?_))))
            · exact congrArg Sum.inr (by simpa using z)
            · have nz : ¬ x1 = x2 := by simpa using z
              rw [lexK, if_neg (fun y => nz (Sum.inr.inj y))] at hq
              exact hq
theorem key_cmp {vs : List Value} {k : Value → List L2.Key} {sh : List Bool} (hp : ∀ v ∈ vs, Keyed s.heap v (k v)) (hs : ∀ v ∈ vs, (k v).map isI = sh) (inj : ∀ v ∈ vs, ∀ u ∈ vs, k v = k u → v = u) : Cmp prog w A s (tuples' true) (fun p => p.1 ∈ vs) (lt2 fun v u => lexK (k v) (k u)) := by
  intro p q hm hm'
  obtain ⟨a, o, xs, n, us, rest, e, ho, hc, hd, hx, hv⟩ := hp _ hm
  obtain ⟨a', o', xs', n', us', rest', e', ho', hc', hd', hx', hv'⟩ := hp _ hm'
  show wpAny (model prog w) A (keyLt' (tuples' true) p.1 q.1) (fun r s' => s' = s ∧ r = lexK (k p.1) (k q.1)) (fun _ _ => False) s
  by_cases same : p.1 = q.1
  · rw [same, lexK_irr, e']
    refine kat_lt ho' hd' ho' hd' (kat_self _ 0 ⟨rfl, ?_⟩)
    exact decide_eq_false (Nat.lt_irrefl _)
  · have ne : k p.1 ≠ k q.1 := fun z => same (inj _ hm _ hm' z)
    have sh' : (k p.1).map isI = (k q.1).map isI := (hs _ hm).trans (hs _ hm').symm
    rw [e, e']
    rw [e] at hv ne sh'
    rw [e'] at hv' ne sh'
    refine kat_lt ho hd ho' hd' ?_
    rw [hx, hx']
    exact kat_keys _ _ us us' rest rest' 0 hv hv' sh' ne ⟨rfl, rfl⟩
theorem firsts_key {h : Heap} {sh : List Bool} {b : Bool} : ∀ {vs : List Value}, (∀ v ∈ vs, ∃ ks, Keyed h v ks ∧ ks.map isI = b :: sh) → ∃ fs : List Value, KatTups h vs fs ∧ fs.length = vs.length ∧ ∀ f ∈ fs, (b = true → ∃ x t, f = Value.int x t) ∧ (b = false → ∃ x t, f = Value.str x t)
  | [], _ => ⟨[], KatTups.nil, rfl, fun _ hm => by simp at hm⟩
  | v :: vs, hp => by
    obtain ⟨fs, h1, h2, h3⟩ := firsts_key (vs := vs) fun v' hm => hp v' (List.mem_cons_of_mem _ hm)
    obtain ⟨ks, ⟨a, o, xs, n, us, rest, e, ho, hc, hd, hx, hv⟩, hk⟩ := hp v (List.mem_cons_self ..)
    cases ks with
    | nil => cases hk
    | cons k ks =>
      cases hv with
      | cons r v' =>
        rename_i u us'
        subst e
        have hk0 : isI k = b := (List.cons.inj hk).1
        have hf : xs[0]? = some u := by
          rw [← Array.getElem?_toList, hx]
          rfl
        refine ⟨u :: fs, KatTups.cons ho hc hd hf h1, by rw [List.length_cons, List.length_cons, h2], fun f hm => ?_⟩
        rcases List.mem_cons.mp hm with rfl | hm
        · cases k with
          | inl x =>
            obtain ⟨t, rfl⟩ := r
            exact ⟨fun _ => ⟨x, t, rfl⟩, (fun z => nomatch (show _ = _ from hk0.trans z))⟩
          | inr x =>
            obtain ⟨t, rfl⟩ := r
            exact ⟨(fun z => nomatch (show _ = _ from hk0.trans z)), fun _ => ⟨x, t, rfl⟩⟩
        · exact h3 f hm
theorem key_sortable {a : Addr} {vs : List Value} {k : Value → List L2.Key} {b : Bool} {sh : List Bool} (h0 : 0 < vs.length) (hp : ∀ v ∈ vs, Keyed s.heap v (k v)) (hs : ∀ v ∈ vs, (k v).map isI = b :: sh) (inj : ∀ v ∈ vs, ∀ u ∈ vs, k v = k u → v = u) (ha : ∀ o, s.heap.get? a = some o → o.cls ≠ .type "tuple") : SortableO prog w A s a vs fun v u => lexK (k v) (k u) := by
  intro h' keep
  have hp' : ∀ v ∈ vs, Keyed h' v (k v) := fun v hm => (hp v hm).keeps fun b o e c => keep b o (fun z => by subst z; exact ha o e c) e
  obtain ⟨fs, h1, h2, h3⟩ := firsts_key (sh := sh) (b := b) fun v hm => ⟨_, hp' v hm, hs v hm⟩
  refine ⟨tuples' true, fun Q E hq => ?_, key_cmp hp' hs inj⟩
  cases b with
  | true =>
    refine kat_kind (T := .type "int") h1 (by omega) (fun f hm => ?_) (by rfl) ?_
    · obtain ⟨x, t, rfl⟩ := (h3 f hm).1 rfl
      exact Looks.now
    · have e : (Value.type "int" != Value.type "tuple") = true := by first | decide +kernel | rfl | decide
      rw [e]
      exact hq
  | false =>
    refine kat_kind (T := .type "str") h1 (by omega) (fun f hm => ?_) (by rfl) ?_
    · obtain ⟨x, t, rfl⟩ := (h3 f hm).2 rfl
      exact Looks.now
    · have e : (Value.type "str" != Value.type "tuple") = true := by first | decide +kernel | rfl | decide
      rw [e]
      exact hq
end
end SrtK
open SrtK in
/-- sorted(xs), xs a list of tuples that begin with keys of the same kinds, no two alike -/
def rSortedK (K : PySem.W.Frag) : List V → Hp → VK → Prop := fun vs H Q => ∃ (a : Addr) (xs : List V) (k : V → List L2.Key) (b : Bool) (sh : List Bool), vs = [V.ref a] ∧ SqL K H a xs ∧ (∀ x ∈ xs, (k x).map isI = b :: sh ∧ ∃ t rest, x = V.ref t ∧ H t = some (.tup ((k x).map kV ++ rest))) ∧ (∀ x ∈ xs, ∀ y ∈ xs, k x = k y → x = y) ∧
  ∀ ys p, SrtO.Srtd (fun x y => lexK (k x) (k y)) ys → SrtO.Stb (fun x y => lexK (k x) (k y)) ys xs → H p = none → Q (.ref p) (upd H p (.lst ys))
theorem vals_front {H : Hp} : ∀ {xs ys : List V} {us : List Value}, Vals (xs ++ ys) us → ∃ u1 u2, us = u1 ++ u2 ∧ Vals xs u1
  | [], ys, us, _ => ⟨[], us, rfl, .nil⟩
  | x :: xs, ys, us, h => by
    cases h with
    | cons r v =>
      obtain ⟨u1, u2, e, v1⟩ := vals_front (H := H) v
      exact ⟨_ :: u1, u2, by rw [e]; rfl, .cons r v1⟩
theorem cr_sortedK {X : Cx} : CallR X (.builtin "sorted") (rSortedK X.K) := by
  intro pins s σ H vs us Q I r h
  obtain ⟨a, xs, k, b, sh, rfl, hs, hx, inj, q⟩ := h
  obtain ⟨its, rv, hl, hz⟩ := I.list hs
  obtain ⟨u, rfl, ru⟩ := vals1 r
  obtain rfl : u = Value.ref a := ru
  obtain ⟨e1, e2⟩ := refs_back rv fun x m => by
    obtain ⟨_, t, _, e, _⟩ := hx x m
    exact ⟨t, e⟩
  have mem : ∀ v ∈ its, backV v ∈ xs := fun v hv => by rw [e1]; exact List.mem_map.mpr ⟨_, hv, rfl⟩
  have hp : ∀ v ∈ its, SrtK.Keyed s.heap v (k (backV v)) := fun v hv => by
    obtain ⟨t, rfl⟩ := e2 v hv
    obtain ⟨_, t', rest, e, ht⟩ := hx _ (mem _ hv)
    cases e
    obtain ⟨_, its2, r2, o, ho, hc, n, hd⟩ := I.hok _ _ ht
    obtain ⟨u1, u2, eu, v1⟩ := vals_front (H := H) r2
    exact ⟨t, o, its2.toArray, n, u1, u2, rfl, ho, hc, hd, eu, v1⟩
  refine SrtO.sorted_ord (SrtK.swo_key fun v => k (backV v)) hl.isList (by rw [← rv.length]; exact hz) (fun h2 h₁ a' ha kk => ?_) fun out o1 o2 => ?_
  · refine SrtK.key_sortable (s := { s with heap := h₁ }) (b := b) (sh := sh) (by omega) (fun v hm => (hp v hm).keeps fun b o e _ => (kk b o e).2) (fun v hv => (hx _ (mem v hv)).1) (fun v hv u hu e => ?_) fun o e => ?_
    · have z := inj _ (mem v hv) _ (mem u hu) e
      obtain ⟨t, rfl⟩ := e2 v hv
      obtain ⟨t', rfl⟩ := e2 u hu
      exact congrArg Value.ref (V.ref.inj z)
    · have e' : some o = some (seqObj "list" its.toArray 0) := e.symm.trans ha
      cases e'
      intro c
      exact absurd (Value.type.inj c) (by decide)
  · have h3 : ∀ u ∈ out, ∃ a, u = Value.ref a := fun u hu => e2 u (o2.perm.mem_iff.mp hu)
    obtain ⟨n, hn⟩ := sortedAll_at s.heap its out.toArray
    have hb : SrtO.Stb (fun x y => SrtK.lexK (k x) (k y)) (out.map backV) xs := by
      rw [e1]
      exact SrtO.Stb.map (SrtK.swo_key k) backV o2
    refine ⟨.ref _, upd H (s.heap.objs.size + 1) (.lst (out.map backV)), I.laid (t' := s.toks) (fun _ _ => sortedAll_old) (Nat.le_succ _) ⟨?_, out, n, vals_back h3, hn⟩, rfl, q _ _ (SrtO.srtd_map o1) hb (I.hok.fresh (Nat.le_succ _))⟩
    rw [hb.len]
    exact hz

/-! ### lying_in -/
/-- dicts locked: each as it was written, all else as it was -/
structure FrzOk (ds : List (Addr × HO)) (H Hf : Hp) : Prop where
  at_ : ∀ x ∈ ds, ∃ od, Hf x.1 = some (.frz od x.2)
  off : ∀ a, a ∉ ds.map (·.1) → Hf a = H a
def unlN : List (Addr × HO) → Hp → Hp
  | [], H => H
  | (d, u) :: r, H => upd (unlN r H) d u
theorem unlN_off : ∀ {ds : List (Addr × HO)} {H : Hp} {a : Addr}, a ∉ ds.map (·.1) → unlN ds H a = H a
  | [], _, _, _ => rfl
  | (d, u) :: r, H, a, h => by
    have h1 : a ≠ d := fun z => h (by rw [z]; exact List.mem_cons_self ..)
    have h2 : a ∉ r.map (·.1) := fun z => h (List.mem_cons_of_mem _ z)
    show upd (unlN r H) d u a = _
    rw [upd_ne h1]
    exact unlN_off h2
theorem unlN_at : ∀ {ds : List (Addr × HO)} {H : Hp} {x : Addr × HO}, (ds.map (·.1)).Nodup → x ∈ ds → unlN ds H x.1 = some x.2
  | (d, u) :: r, H, x, nd, h => by
    obtain ⟨n1, n2⟩ := List.nodup_cons.mp nd
    rcases List.mem_cons.mp h with e | e
    · rw [e]
      exact upd_same
    · have h1 : x.1 ≠ d := fun z => n1 (by show d ∈ r.map (·.1); rw [← z]; exact List.mem_map.mpr ⟨x, e, rfl⟩)
      show upd (unlN r H) d u x.1 = _
      rw [upd_ne h1]
      exact unlN_at n2 e
theorem locks_in {t : TE} {σ : L2.St} : ∀ (ds : List (Addr × HO)) {H : Hp} {Q : VK}, (ds.map (·.1)).Nodup → (∀ x ∈ ds, H x.1 = some x.2 ∧ Mut (some x.2)) → (∀ Hf, FrzOk ds H Hf → t σ Hf fun v H' => (∀ x ∈ ds, ∀ od, Hf x.1 = some (.frz od x.2) → H' x.1 = some (.frz od x.2)) ∧ Q v (unlN ds H')) → tLockN ds t σ H Q
  | [], H, Q, _, _, h => by
    have := h H ⟨(fun _ z => nomatch z), fun _ _ => rfl⟩
    have e : (fun (v : V) (H' : Hp) => (∀ x ∈ ([] : List (Addr × HO)), ∀ od, H x.1 = some (.frz od x.2) → H' x.1 = some (.frz od x.2)) ∧ Q v (unlN [] H')) = Q := by
      funext v H'
      exact propext ⟨fun z => z.2, fun z => ⟨(fun _ y => nomatch y), z⟩⟩
    rw [e] at this
    exact this
  | (d, u) :: r, H, Q, nd, hd, h => by
    obtain ⟨n1, n2⟩ := List.nodup_cons.mp nd
    obtain ⟨h1, h2⟩ := hd _ (List.mem_cons_self ..)
    refine ⟨h1, h2, fun od => locks_in r n2 (fun x hx => ?_) fun Hf hf => ?_⟩
    · obtain ⟨a, b⟩ := hd x (List.mem_cons_of_mem _ hx)
      have ne : x.1 ≠ d := fun z => n1 (by show d ∈ r.map (·.1); rw [← z]; exact List.mem_map.mpr ⟨x, hx, rfl⟩)
      exact ⟨by rw [upd_ne ne]; exact a, b⟩
    · have ed : Hf d = some (.frz od u) := by rw [hf.off d n1]; exact upd_same
      have := h Hf ⟨fun x hx => ?_, fun a ha => ?_⟩
      · have e : (fun (v : V) (H' : Hp) => (∀ x ∈ (d, u) :: r, ∀ od, Hf x.1 = some (.frz od x.2) → H' x.1 = some (.frz od x.2)) ∧ Q v (unlN ((d, u) :: r) H')) = fun v H' => (∀ x ∈ r, ∀ od, Hf x.1 = some (.frz od x.2) → H' x.1 = some (.frz od x.2)) ∧ (unlN r H') d = some (.frz od u) ∧ Q v (upd (unlN r H') d u) := by
          funext v H'
          refine propext ⟨fun ⟨a, b⟩ => ⟨fun x hx => a x (List.mem_cons_of_mem _ hx), by rw [unlN_off n1]; exact a _ (List.mem_cons_self ..) od ed, b⟩, fun ⟨a, b, c⟩ => ⟨fun x hx od' e => ?_, c⟩⟩
          rcases List.mem_cons.mp hx with y | y
          · rw [y] at e ⊢
            rw [unlN_off n1] at b
            have e : Hf d = some (.frz od' u) := e
            rw [ed] at e
            cases e
            exact b
          · exact a x y od' e
        rw [e] at this
        exact this
      · rcases List.mem_cons.mp hx with y | y
        · rw [y]; exact ⟨od, ed⟩
        · exact hf.at_ x y
      · have h3 : a ≠ d := fun z => ha (by rw [z]; exact List.mem_cons_self ..)
        have h4 : a ∉ r.map (·.1) := fun z => ha (List.mem_cons_of_mem _ z)
        rw [hf.off a h4, upd_ne h3]
theorem locks_intro {t : TE} {σ : L2.St} (ds : List (Addr × HO)) {H : Hp} {Q : VK} (nd : (ds.map (·.1)).Nodup) (hd : ∀ x ∈ ds, H x.1 = some x.2 ∧ Mut (some x.2)) (h : ∀ Hf, FrzOk ds H Hf → t σ Hf fun v H' => (∀ x ∈ ds, ∀ od, Hf x.1 = some (.frz od x.2) → H' x.1 = some (.frz od x.2)) ∧ Q v (unlN ds H')) : tLocks t σ H Q := ⟨ds, locks_in ds nd hd h⟩
theorem unl_same {ds : List (Addr × HO)} {H Hf H' : Hp} (nd : (ds.map (·.1)).Nodup) (hd : ∀ x ∈ ds, H x.1 = some x.2) (hf : FrzOk ds H Hf) (s : Same Hf H') : Same H (unlN ds H') := fun a o e => by
  by_cases c : a ∈ ds.map (·.1)
  · obtain ⟨x, hx, rfl⟩ := List.mem_map.mp c
    rw [unlN_at nd hx]
    have := hd x hx
    rw [this] at e
    exact e
  · rw [unlN_off c]
    exact s _ _ (by rw [hf.off a c]; exact e)
/-- a list that is in strict order by keys is one -/
theorem srtY_one {α : Type} {k : α → List L2.Key} : ∀ {o1 o2 : List α}, (∀ r, r ∈ o1 ↔ r ∈ o2) → o1.Pairwise (fun a b => SrtK.lexK (k a) (k b) = true) → o2.Pairwise (fun a b => SrtK.lexK (k a) (k b) = true) → o1 = o2
  | [], [], _, _, _ => rfl
  | [], y :: r, h, _, _ => nomatch (h y).mpr (List.mem_cons_self ..)
  | x :: r, [], h, _, _ => nomatch (h x).mp (List.mem_cons_self ..)
  | x :: r1, y :: r2, h, p1, p2 => by
    obtain ⟨a1, b1⟩ := List.pairwise_cons.mp p1
    obtain ⟨a2, b2⟩ := List.pairwise_cons.mp p2
    have no : ∀ {a b : α}, SrtK.lexK (k a) (k b) = true → SrtK.lexK (k b) (k a) = true → False := fun h1 h2 => by
      have := SrtK.lexK_asym h1
      rw [h2] at this
      cases this
    have e : x = y := by
      rcases List.mem_cons.mp ((h x).mp (List.mem_cons_self ..)) with z | z
      · exact z
      · rcases List.mem_cons.mp ((h y).mpr (List.mem_cons_self ..)) with w | w
        · exact w.symm
        · exact (no (a1 y w) (a2 x z)).elim
    subst e
    have irr : ∀ {r : List α}, (∀ b ∈ r, SrtK.lexK (k x) (k b) = true) → x ∉ r := fun kk z => no (kk x z) (kk x z)
    rw [srtY_one (fun r => ⟨fun z => ?_, fun z => ?_⟩) b1 b2]
    · rcases List.mem_cons.mp ((h r).mp (List.mem_cons_of_mem _ z)) with w | w
      · exact absurd (w ▸ z) (irr a1)
      · exact w
    · rcases List.mem_cons.mp ((h r).mpr (List.mem_cons_of_mem _ z)) with w | w
      · exact absurd (w ▸ z) (irr a2)
      · exact w
theorem inj_nodup' {α β : Type} {f : α → β} {l : List α} (nd : (l.map f).Nodup) {a b : α} (ha : a ∈ l) (hb : b ∈ l) (e : f a = f b) : a = b := by
  obtain ⟨i, ei⟩ := List.getElem?_of_mem ha
  obtain ⟨j, ej⟩ := List.getElem?_of_mem hb
  have := nd_ix nd ei ej e
  subst this
  rw [ei] at ej
  exact Option.some.inj ej
abbrev Row3 := Str × Str × Prs2
def row3D (r : Row3) : PyData := .tuple [.str r.1, .str r.2.1, .list (r.2.2.map pairD)]
def keyY (r : Row3) : List L2.Key := [.inr r.1, .inr r.2.1]
/-- what lies: each holder's cases of each name, in order -/
structure LyR (st : StF) (out : List Row3) : Prop where
  mem : ∀ r, r ∈ out ↔ ∃ e ∈ st, r.2.1 = e.1 ∧ Told (SetAt e.2 (.ly r.1)) r.2.2 ∧ r.2.2 ≠ []
  up : out.Pairwise fun a b => SrtK.lexK (keyY a) (keyY b) = true
theorem LyR.one {st : StF} {o1 o2 : List Row3} (h1 : LyR st o1) (h2 : LyR st o2) : o1 = o2 := srtY_one (fun r => (h1.mem r).trans (h2.mem r).symm) h1.up h2.up
theorem thgl_perm {α : Type} {f : α → PyData} {cs : List Addr} {H : Hp} {zs ys : List V} (h : zs.Perm ys) : ∀ {rs : List α}, ThgL cs H zs (rs.map f) → ∃ rs' : List α, rs'.Perm rs ∧ ThgL cs H ys (rs'.map f) := by
  have un : ∀ {x : V} {l : List V} {rs : List α}, ThgL cs H (x :: l) (rs.map f) → ∃ r rs2, rs = r :: rs2 ∧ Thg cs H x (f r) ∧ ThgL cs H l (rs2.map f) := fun {x l rs} h => by
    cases rs with
    | nil => cases h.1
    | cons r rs2 =>
      obtain ⟨x', l', e, h1, h2⟩ := h.inv
      cases e
      exact ⟨r, rs2, rfl, h1, h2⟩
  induction h with
  | nil => intro rs h; exact ⟨rs, List.Perm.refl _, h⟩
  | cons x _ ih =>
    intro rs h
    obtain ⟨r, rs2, rfl, h1, h2⟩ := un h
    obtain ⟨rs3, h3, h4⟩ := ih h2
    exact ⟨r :: rs3, h3.cons r, ThgL.cons h1 h4⟩
  | swap x y r =>
    intro rs h
    obtain ⟨a, rs2, rfl, h1, h2⟩ := un h
    obtain ⟨b, rs3, rfl, h3, h4⟩ := un h2
    exact ⟨b :: a :: rs3, List.Perm.swap _ _ _, ThgL.cons h3 (ThgL.cons h1 h4)⟩
  | trans _ _ ih1 ih2 =>
    intro rs h
    obtain ⟨r1, h1, h2⟩ := ih1 h
    obtain ⟨r2, h3, h4⟩ := ih2 h2
    exact ⟨r2, h3.trans h1, h4⟩
/-- the rows of the first names -/
structure LyP (sts : StF) (rows : List Row3) : Prop where
  mem : ∀ r, r ∈ rows ↔ ∃ e ∈ sts, r.2.1 = e.1 ∧ Told (SetAt e.2 (.ly r.1)) r.2.2 ∧ r.2.2 ≠ []
  nd : (rows.map keyY).Nodup
/-- the rows of a name, by the first keys of its store -/
structure LyI (W : Whr) (nm : Str) (kv : List (List L2.Key × V)) (rows : List Row3) : Prop where
  to : ∀ r ∈ rows, r.2.1 = nm ∧ Told (SetAt W (.ly r.1)) r.2.2 ∧ r.2.2 ≠ [] ∧ keyOf (.ly r.1) ∈ kv.map (·.1)
  fro : ∀ h rs, keyOf (.ly h) ∈ kv.map (·.1) → Told (SetAt W (.ly h)) rs → rs ≠ [] → (h, nm, rs) ∈ rows
  nd : (rows.map keyY).Nodup
theorem LyI.nil {W : Whr} {nm : Str} : LyI W nm [] [] := ⟨(fun _ z => nomatch z), (fun _ _ z => nomatch z), List.nodup_nil⟩
theorem LyI.skip {W : Whr} {nm : Str} {kv : List (List L2.Key × V)} {rows : List Row3} (h : LyI W nm kv rows) {sp : Spt} {v : V} (hno : ∀ x rs, sp = .ly x → Told (SetAt W (.ly x)) rs → rs = []) : LyI W nm (kv ++ [(keyOf sp, v)]) rows := by
  refine ⟨fun r hr => ?_, fun x rs hx ht hne => ?_, h.nd⟩
  · obtain ⟨a, b, c, d⟩ := h.to r hr
    exact ⟨a, b, c, by rw [List.map_append]; exact List.mem_append_left _ d⟩
  · rw [List.map_append] at hx
    rcases List.mem_append.mp hx with z | z
    · exact h.fro x rs z ht hne
    · have z : keyOf (.ly x) = keyOf sp := List.mem_singleton.mp z
      exact absurd (hno x rs (keyOf_inj z).symm ht) hne
theorem LyI.more {W : Whr} {nm : Str} {kv : List (List L2.Key × V)} {rows : List Row3} (h : LyI W nm kv rows) {x : Str} {v : V} {rs : Prs2} (hn : keyOf (.ly x) ∉ kv.map (·.1)) (ht : Told (SetAt W (.ly x)) rs) (hne : rs ≠ []) : LyI W nm (kv ++ [(keyOf (.ly x), v)]) (rows ++ [(x, nm, rs)]) := by
  refine ⟨fun r hr => ?_, fun y rs' hy ht' hne' => ?_, ?_⟩
  · rw [List.map_append]
    rcases List.mem_append.mp hr with z | z
    · obtain ⟨a, b, c, d⟩ := h.to r z
      exact ⟨a, b, c, List.mem_append_left _ d⟩
    · rw [List.mem_singleton.mp z]
      exact ⟨rfl, ht, hne, List.mem_append_right _ (List.mem_singleton.mpr rfl)⟩
  · rw [List.map_append] at hy
    rcases List.mem_append.mp hy with z | z
    · exact List.mem_append_left _ (h.fro y rs' z ht' hne')
    · have z : keyOf (.ly y) = keyOf (.ly x) := List.mem_singleton.mp z
      cases keyOf_inj z
      rw [ht'.one ht fun _ => Iff.rfl]
      exact List.mem_append_right _ (List.mem_singleton.mpr rfl)
  · rw [List.map_append]
    refine List.nodup_append.mpr ⟨h.nd, by simp, fun a ha b hb => ?_⟩
    obtain ⟨r, hr, rfl⟩ := List.mem_map.mp ha
    have hb : b = keyY (x, nm, rs) := by simpa using hb
    rw [hb]
    intro e
    have e1 : r.1 = x := Sum.inr.inj (List.cons.inj e).1
    obtain ⟨_, _, _, d⟩ := h.to r hr
    rw [e1] at d
    exact hn d
theorem LyP.more {sts : StF} {rows rows' : List Row3} {e : Str × Whr} {kv : List (List L2.Key × V)} (h : LyP sts rows) (hi : LyI e.2 e.1 kv rows') (hall : ∀ n sp, e.2 n = some sp → keyOf sp ∈ kv.map (·.1)) (hn : ∀ x ∈ sts, x.1 ≠ e.1) : LyP (sts ++ [e]) (rows ++ rows') := by
  refine ⟨fun r => ?_, ?_⟩
  · rw [List.mem_append, h.mem]
    constructor
    · rintro (⟨x, a, b⟩ | z)
      · exact ⟨x, List.mem_append_left _ a, b⟩
      · obtain ⟨a, b, c, _⟩ := hi.to r z
        exact ⟨e, List.mem_append_right _ (List.mem_singleton.mpr rfl), a, b, c⟩
    · rintro ⟨x, a, b, c, d⟩
      rcases List.mem_append.mp a with z | z
      · exact .inl ⟨x, z, b, c, d⟩
      · cases List.mem_singleton.mp z
        refine .inr ?_
        obtain ⟨r1, r2, r3⟩ := r
        have b : r2 = e.1 := b
        subst b
        refine hi.fro r1 r3 ?_ c d
        obtain ⟨p, hp⟩ := List.exists_mem_of_ne_nil _ d
        obtain ⟨lo, hR⟩ := c.ris
        exact hall p.1 _ ((c.same p.1).mp ⟨p, hp, Int.le_refl _, (Ris.le hR p hp).2⟩)
  · rw [List.map_append]
    refine List.nodup_append.mpr ⟨h.nd, hi.nd, fun a ha b hb => ?_⟩
    obtain ⟨r, hr, rfl⟩ := List.mem_map.mp ha
    obtain ⟨r2, hr2, rfl⟩ := List.mem_map.mp hb
    intro ee
    obtain ⟨x, h1, h2, _⟩ := (h.mem r).mp hr
    obtain ⟨h3, _⟩ := hi.to r2 hr2
    have e2 : r.2.1 = r2.2.1 := Sum.inr.inj (List.cons.inj (List.cons.inj ee).2).1
    exact hn x h1 (by rw [← h2, e2, h3])
def kfY (H : Hp) (v : V) : List L2.Key := match v with
  | .ref a => (match H a with
    | some (.tup (.str x :: .str y :: _)) => [.inr x, .inr y]
    | _ => [])
  | _ => []
theorem Thg.row3 {cs : List Addr} {H : Hp} {v : V} {r : Row3} (h : Thg cs H v (row3D r)) : ∃ T x, v = .ref T ∧ H T = some (.tup [.str r.1, .str r.2.1, x]) ∧ kfY H v = keyY r := by
  obtain ⟨T, xs, rfl, eT, h1⟩ := h.tuple
  obtain ⟨x1, w1, rfl, g1, h2⟩ := h1.inv
  obtain ⟨x2, w2, rfl, g2, h3⟩ := h2.inv
  obtain ⟨x3, w3, rfl, g3, h4⟩ := h3.inv
  rw [h4.inv0, g1.inv_str, g2.inv_str] at eT
  refine ⟨T, x3, rfl, eT, ?_⟩
  unfold kfY
  simp only [eT]
  rfl
def spLying (K : PySem.W.Frag) : Sp := fun vs H Q _ => ∃ (S : Addr) (kvs : List (L2.Key × V)) (st : StF) (as cs : List Addr) (E : List Int) (SP : List Spt), vs = [.ref S] ∧ H S = some (.dK kvs) ∧ StR E SP cs H kvs st as ∧ E.length ≤ 300 ∧ SP.length ≤ 1000 ∧ st.length ≤ 900 ∧ st.length * SP.length ≤ 1000000 ∧
  ∀ l zs out H', H l = none → H' l = some (.lst zs) → ThgL cs H' zs (out.map row3D) → LyR st out → zs.length ≤ st.length * SP.length → Same H H' → Q (.ref l) H'
abbrev sLying : Stmt := topS 27
theorem scLying : FnScope ["stores", "name", "store", "spot", "cases"] ["stores"] (defScope sLying) := ⟨rfl, rfl, rfl, by decide +kernel, rfl, by decide +kernel, by decide +kernel⟩
section
variable {K : PySem.W.Frag} {mg : Str → Option Value} {P : Program} {w : World} {base : Heap}
theorem ok_Lying {f : Addr} {fd : FuncData} (F : Fun K "lying_in" "lying_in" sLying f fd) (c_LYING : ∃ u, mg "LYING" = some u ∧ RelV (.str "lying") u) (m_sorted : mg "sorted" = none) : FnOk P w K mg base CX0 1 f fd ["stores"] (spLying K) := by
  refine F.ok scLying (fun vs H Q E h => ?_) (fun cdv A outer s H vs Q E hr h => ?_)
  · obtain ⟨S, kvs, st, as, cs, E, SP, rfl, _⟩ := h
    rfl
  · obtain ⟨S, kvs, st, as, cs, E, SP, rfl, eS, hSt, hE, hSP, hstl, hprod, q⟩ := h
    refine ⟨_, pss_one (ps_ret (pe_callB cr_sortedK (by rfl) m_sorted (by decide +kernel) (pa_cons (pe_locks (pe_lc2 (own := [("name", 1), ("store", 2), ("spot", 3), ("cases", 4)]) (vs1 := [3, 4]) (g := gTup K 2 (gCons (gName 1) (gCons (gName 2) gNil))) (tt := tYes) (wi1 := iItemsT (tVar 2)) (g1 := gTup K 2 (gCons (gName 3) (gCons (gName 4) gNil))) (tt1 := tAnd (tTest (tOp rEq (tOp (rIxT K) (tVar 3) (tC (.int 0))) (tC (.str "lying")))) (tTru K (tVar 4))) (te := tTup (tCons (tOp (rIxT K) (tVar 3) (tC (.int 1))) (tCons (tVar 1) (tCons (tVar 4) tNil)))) rfl scLying.nd (pi_items (pv 0)) (blkOk_by (own := [("name", 1), ("store", 2), ("spot", 3), ("cases", 4)]) (N := ["stores", "name", "store", "spot", "cases"]) (sc := defScope sLying) (by decide +kernel)) (by decide) (fun _ _ _ _ _ => pg_tup rfl (pgs_cons (pg_name (i := 1) scLying.nd rfl (.inl rfl)) (pgs_cons (pg_name (i := 2) scLying.nd rfl (.inl rfl)) pgs_nil))) (fun _ _ _ _ _ => pts_nil) (fun _ _ _ _ _ => pi_itemsT (pv 2)) (fun _ _ _ _ _ => pg_tup rfl (pgs_cons (pg_name (i := 3) scLying.nd rfl (.inl rfl)) (pgs_cons (pg_name (i := 4) scLying.nd rfl (.inl rfl)) pgs_nil))) (fun _ _ _ _ _ => pts_one (PW.pt (pw_and (pt_cmpR op_eq (pe_ix ix_tup (pv 3) pe_int (fun _ _ => rfl)) (C8.pe_gc (by rfl) c_LYING) (nomark _)) (pw_and1 (pt_truth (pv 4) (by intro _; rfl)))))) (fun _ _ _ _ _ => pe_tup (pa_cons (pe_ix ix_tup (pv 3) pe_int (fun _ _ => rfl)) (pa_cons (pv 1) (pa_cons (pv 4) pa_nil)))))) pa_nil))), ?_⟩
    -- all dicts are locked
    have hkv : ∀ a ∈ as, ∃ kv, H a = some (.dT kv) := fun a ha => by
      obtain ⟨i, ei⟩ := List.getElem?_of_mem ha
      have hi : i < st.length := by rw [← hSt.len]; exact (List.getElem?_eq_some_iff.mp ei).1
      obtain ⟨kv, e, _⟩ := (hSt.sto i a _ ei (List.getElem?_eq_getElem hi)).at_
      exact ⟨kv, e⟩
    let ds : List (Addr × HO) := (S, .dK kvs) :: as.map fun a => (a, (H a).getD (.lst []))
    have hda : as.map (fun a => (a, (H a).getD (.lst []))) = as.map fun a => (a, (H a).getD (.lst [])) := rfl
    have ndd : (ds.map (·.1)).Nodup := by
      show (S :: (as.map fun a => (a, (H a).getD (.lst []))).map (·.1)).Nodup
      rw [List.map_map, show as.map ((·.1) ∘ fun a => (a, (H a).getD (HO.lst []))) = as by rw [show ((·.1) ∘ fun a : Addr => (a, (H a).getD (HO.lst []))) = id from rfl, List.map_id]]
      refine List.nodup_cons.mpr ⟨fun z => ?_, hSt.and⟩
      obtain ⟨kv, e⟩ := hkv S z
      rw [eS] at e
      cases e
    have hds : ∀ x ∈ ds, H x.1 = some x.2 ∧ Mut (some x.2) := fun x hx => by
      rcases List.mem_cons.mp hx with e | e
      · rw [e]; exact ⟨eS, True.intro⟩
      · obtain ⟨a, ha, rfl⟩ := List.mem_map.mp e
        obtain ⟨kv, e⟩ := hkv a ha
        show H a = some ((H a).getD (.lst [])) ∧ Mut (some ((H a).getD (.lst [])))
        rw [e]
        exact ⟨rfl, True.intro⟩
    refine locks_intro ds ndd hds fun Hf hf => ?_
    obtain ⟨oS, eSf⟩ := hf.at_ (S, .dK kvs) (List.mem_cons_self ..)
    refine ⟨_, rfl, S, oS, kvs, rfl, eSf, fun D nD => ?_⟩
    have hnl : ∀ a xs, H a = some (.lst xs) → a ∉ ds.map (·.1) := fun a xs e z => by
      obtain ⟨x, hx, rfl⟩ := List.mem_map.mp z
      rcases List.mem_cons.mp hx with y | y
      · rw [y, eS] at e; cases e
      · obtain ⟨b, hb, rfl⟩ := List.mem_map.mp y
        obtain ⟨kv, e2⟩ := hkv b hb
        have e : H b = some (.lst xs) := e
        rw [e2] at e; cases e
    have hnt : ∀ a xs, H a = some (.tup xs) → a ∉ ds.map (·.1) := fun a xs e z => by
      obtain ⟨x, hx, rfl⟩ := List.mem_map.mp z
      rcases List.mem_cons.mp hx with y | y
      · rw [y, eS] at e; cases e
      · obtain ⟨b, hb, rfl⟩ := List.mem_map.mp y
        obtain ⟨kv, e2⟩ := hkv b hb
        have e : H b = some (.tup xs) := e
        rw [e2] at e; cases e
    have kf : KpL H Hf := ⟨fun a xs e => by rw [hf.off a (hnl a xs e)]; exact e, fun a xs e => by rw [hf.off a (hnt a xs e)]; exact e⟩
    have hkl := hSt.kl
    refine walk_W walk_items (fun i H' => Same Hf H' ∧ ∃ zs rows, H' D = some (.lst zs) ∧ ThgL (D :: cs) H' zs (rows.map row3D) ∧ LyP (st.take i) rows ∧ zs.length ≤ i * SP.length) ⟨same_upd nD, [], [], upd_same, ThgL.nil, ⟨fun r => ⟨(fun z => nomatch z), fun ⟨_, z, _⟩ => nomatch z⟩, List.nodup_nil⟩, by simp⟩ (fun i H' _ hP => hP.1 _ _ eSf) (fun i x H' H'' hi hP hy => ?_) (fun H' hP => ?_)
    · obtain ⟨sm, zs, rows, eD, hz, hR, hzl⟩ := hP
      obtain ⟨T, x1, y1, rfl, nT, rfl, g1, g2⟩ := hy
      have his : i < st.length := by rw [← hkl]; exact hi
      have hia : i < as.length := by rw [hSt.len]; exact his
      have ees : st[i]? = some st[i] := List.getElem?_eq_getElem his
      have eas : as[i]? = some as[i] := List.getElem?_eq_getElem hia
      have ek : kvs[i]? = some (.inr st[i].1, .ref as[i]) := by
        rw [hSt.keys, List.getElem?_map, show (st.zip as)[i]? = some (st[i], as[i]) from List.getElem?_zip_eq_some.mpr ⟨ees, eas⟩]
        rfl
      have etk : st.take (i + 1) = st.take i ++ [st[i]] := by rw [List.take_add_one, ees]; rfl
      have hno : ∀ x ∈ st.take i, x.1 ≠ st[i].1 := fun x hx e => by
        obtain ⟨j, ej⟩ := List.getElem?_of_mem hx
        have hj : j < i := by
          have := (List.getElem?_eq_some_iff.mp ej).1
          rw [List.length_take] at this
          omega
        rw [List.getElem?_take_of_lt hj] at ej
        have := nd_ix hSt.nd ej ees e
        omega
      have hsto := hSt.sto i _ _ eas ees
      have ham : as[i] ∈ as := List.getElem_mem hia
      revert ek etk hno hsto ham
      generalize st[i] = e
      generalize as[i] = a0
      intro ek etk hno hsto ham
      have g1 : (kvs[i]?.map fun kv => kV kv.1) = some x1 := g1
      have g2 : kvs[i]?.map Prod.snd = some y1 := g2
      rw [ek] at g1 g2
      cases g1
      cases g2
      obtain ⟨kv, eK, hK⟩ := hsto.at_
      have hkl2 := hK.len
      obtain ⟨oa, eaf⟩ := hf.at_ (a0, (H a0).getD (.lst [])) (List.mem_cons_of_mem _ (List.mem_map.mpr ⟨a0, ham, rfl⟩))
      have eaf : Hf a0 = some (.frz oa (.dT kv)) := by rw [eK] at eaf; exact eaf
      have sT := same_upd (o := .tup [kV (.inr e.1), .ref a0]) nT
      have eT := upd_same (H := H') (a := T) (o := .tup [kV (.inr e.1), .ref a0])
      have smT := sm.trans sT
      have eDT := sT _ _ eD
      have hzT := hz.same sT
      revert smT eDT hzT eT
      generalize upd H' T (.tup [kV (.inr e.1), .ref a0]) = H1
      intro eT smT eDT hzT
      refine ⟨T, _, rfl, .inl (.inl eT), rfl, _, _, rfl, _, _, rfl, rfl, rfl, ?_⟩
      refine ⟨_, rfl, a0, oa, kv, rfl, smT _ _ eaf, walk_W walk_itemsT (fun j H2 => Same Hf H2 ∧ ∃ zs2 rows2, H2 D = some (.lst zs2) ∧ ThgL (D :: cs) H2 zs2 ((rows ++ rows2).map row3D) ∧ LyI e.2 e.1 (kv.take j) rows2 ∧ zs2.length ≤ i * SP.length + j) ⟨smT, zs, [], eDT, by rw [List.append_nil]; exact hzT, LyI.nil, by omega⟩ (fun j H2 _ hP => hP.1 _ _ eaf) (fun j x H2 H2' hj hP hy => ?_) (fun H2 hP => ?_)⟩
      · obtain ⟨sm2, zs2, rows2, eD2, hz2, hI, hzl2⟩ := hP
        obtain ⟨T2, key, v, q0, ekv, rfl, nT2, rfl, eq0⟩ := hy
        obtain ⟨sp, l, rs, hsp, e2, e3, hl, ht, hlc⟩ := hK.ent _ (List.mem_of_getElem? ekv)
        obtain rfl : key = keyOf sp := e2
        obtain rfl : v = .ref l := e3
        have etk2 : kv.take (j + 1) = kv.take j ++ [(keyOf sp, .ref l)] := by rw [List.take_add_one, ekv]; rfl
        have hnk : keyOf sp ∉ (kv.take j).map (·.1) := fun y => by
          obtain ⟨z, hz, ez⟩ := List.mem_map.mp y
          obtain ⟨j2, ej2⟩ := List.getElem?_of_mem hz
          have hj2 : j2 < j := by
            have := (List.getElem?_eq_some_iff.mp ej2).1
            rw [List.length_take] at this
            omega
          rw [List.getElem?_take_of_lt hj2] at ej2
          have := nd_ix hK.nd ej2 ekv ez
          omega
        have sT2 := same_upd (o := .tup [V.ref q0, .ref l]) nT2
        have eT2 := upd_same (H := H2) (a := T2) (o := .tup [V.ref q0, .ref l])
        have eq1 := sT2 _ _ eq0
        have smT2 := sm2.trans sT2
        have eDT2 := sT2 _ _ eD2
        have hzT2 := hz2.same sT2
        have nDl : l ≠ D := fun y => by
          obtain ⟨us0, el0, _⟩ := id hl
          have := kf.l _ _ el0
          rw [y, nD] at this
          cases this
        obtain ⟨us, el, hus⟩ := (hl.kpl kf).same smT2
        revert eT2 eq1 smT2 eDT2 hzT2 el hus
        generalize upd H2 T2 (.tup [V.ref q0, .ref l]) = H3
        intro eT2 eq1 smT2 eDT2 hzT2 el hus
        have e0' : atI ((keyOf sp).map kV) 0 = some (.str (wdOf sp)) := by
          cases sp <;> exact atI_nat (j := 0) rfl
        refine ⟨T2, _, rfl, .inl (.inl eT2), rfl, _, _, rfl, _, _, rfl, rfl, rfl, ?_⟩
        refine ⟨_, rfl, q0, _, 0, _, rfl, rfl, .inl (.inl eq1), e0', rfl, _, rfl, ite2 (fun c => ?_) (fun c => ?_)⟩
        · have hw : wdOf sp = "lying" := V.str.inj (of_decide_eq_true c)
          obtain ⟨x, rfl⟩ : ∃ x, sp = .ly x := by
            cases sp with
            | ly x => exact ⟨x, rfl⟩
            | sold => exact absurd hw (by show ¬ (("sold" : Str) = "lying"); decide +kernel)
            | back => exact absurd hw (by show ¬ (("back" : Str) = "lying"); decide +kernel)
            | lk k => exact absurd hw (by show ¬ (("lacking" : Str) = "lying"); decide +kernel)
          cases us with
          | nil =>
            have ers : rs = [] := List.eq_nil_of_length_eq_zero hus.1.symm
            refine ⟨_, rfl, false, .inl ⟨_, SqL.of el, rfl⟩, iteF ⟨smT2, zs2, rows2, eDT2, hzT2, ?_, by omega⟩⟩
            rw [etk2]
            exact hI.skip fun y rs' ey ht' => by
              cases ey
              rw [ht'.one ht fun _ => Iff.rfl, ers]
          | cons u0 us =>
            have hne : rs ≠ [] := fun z => by
              have := hus.1
              rw [z] at this
              cases this
            refine ⟨_, rfl, true, .inl ⟨_, SqL.of el, rfl⟩, iteT ⟨_, rfl, q0, _, 1, _, rfl, rfl, .inl (.inl eq1), atI_nat (j := 1) rfl, _, rfl, _, rfl, (by show 3 ≤ sizeLine; decide), fun T3 nT3 => ?_⟩⟩
            have sT3 := same_upd (o := .tup [V.str x, .str e.1, .ref l]) nT3
            have eD3 := sT3 _ _ eDT2
            have hrow : Thg (D :: cs) (upd H3 T3 (.tup [V.str x, .str e.1, .ref l])) (.ref T3) (row3D (x, e.1, rs)) :=
              ThgL.tup (.cons (.str _) (.cons (.str _) (.one ((prs_thg (hus.same sT3)).lst (sT3 _ _ el) (fun z => (List.mem_cons.mp z).elim nDl hlc))))) upd_same
            refine ⟨zs2, eD3, by rw [sizeLine_eq]; have : i * SP.length ≤ st.length * SP.length := Nat.mul_le_mul_right _ (by omega); omega, fun b o eb => ?_, zs2 ++ [.ref T3], rows2 ++ [(x, e.1, rs)], upd_same, ?_, ?_, by rw [List.length_append]; show zs2.length + 1 ≤ _; omega⟩
            · rw [upd_ne (ne_of_none eb nD)]
              exact sT3 _ _ (smT2 b o eb)
            · rw [← List.append_assoc, List.map_append]
              exact ((hzT2.same sT3).upd eD3 (List.mem_cons_self ..)).append (ThgL.one (hrow.upd eD3 (List.mem_cons_self ..)))
            · rw [etk2]
              exact hI.more hnk ht hne
        · refine ⟨smT2, zs2, rows2, eDT2, hzT2, ?_, by omega⟩
          rw [etk2]
          refine hI.skip fun y rs' ey _ => ?_
          cases ey
          exact absurd (decide_eq_true rfl) c
      · obtain ⟨sm2, zs2, rows2, eD2, hz2, hI, hzl2⟩ := hP
        rw [List.take_length] at hI
        refine ⟨sm2, zs2, rows ++ rows2, eD2, hz2, ?_, by rw [Nat.succ_mul]; omega⟩
        rw [etk]
        exact hR.more hI (fun n sp hn => let ⟨x, hx, ex⟩ := hK.all n sp hn; List.mem_map.mpr ⟨x, hx, ex⟩) hno
    obtain ⟨sm, zs, rows, eD, hz, hR, hzl⟩ := hP
    rw [hkl, List.take_length] at hR
    refine ⟨fun x _ od e => sm _ _ e, ?_⟩
    have sU := unl_same ndd (fun x hx => (hds x hx).1) hf sm
    have hno' : ∀ a o, H' a = some o → (∀ od u, o ≠ .frz od u) → unlN ds H' a = some o := fun a o e hne => by
      rw [unlN_off (fun z => ?_)]
      · exact e
      · obtain ⟨x, hx, rfl⟩ := List.mem_map.mp z
        obtain ⟨od, e2⟩ := hf.at_ x hx
        rw [sm _ _ e2] at e
        cases e
        exact hne _ _ rfl
    have kU : KpL H' (unlN ds H') := ⟨fun a xs e => hno' a _ e (fun _ _ z => nomatch z), fun a xs e => hno' a _ e (fun _ _ z => nomatch z)⟩
    have eDU := kU.l _ _ eD
    have hzU := hz.kpl kU
    revert sU eDU hzU
    generalize unlN ds H' = Hu
    intro sU eDU hzU
    have key : zs.map (kfY Hu) = rows.map keyY := by
      refine List.ext_getElem? fun i => ?_
      rw [List.getElem?_map, List.getElem?_map]
      cases e : zs[i]? with
      | none =>
        have h1 := List.getElem?_eq_none_iff.mp e
        have hl := hzU.1
        rw [List.length_map] at hl
        rw [List.getElem?_eq_none (by omega)]
        rfl
      | some v =>
        obtain ⟨r, er, hr⟩ := hzU.atM e
        obtain ⟨_, _, _, _, h5⟩ := hr.row3
        rw [er]
        exact congrArg some h5
    refine ⟨D, zs, kfY Hu, false, [false], rfl, SqL.of eDU, fun v hv => ?_, fun v hv u hu euv => ?_, fun ys p srt stb np => ?_⟩
    · obtain ⟨i, ei⟩ := List.getElem?_of_mem hv
      obtain ⟨r, er, hr⟩ := hzU.atM ei
      obtain ⟨T, x, rfl, eT, h5⟩ := hr.row3
      rw [h5]
      exact ⟨rfl, T, [x], rfl, eT⟩
    · exact inj_nodup' (f := kfY Hu) (by rw [key]; exact hR.nd) hv hu euv
    · obtain ⟨rows', hp, hy⟩ := thgl_perm stb.perm.symm hzU
      have keyy : ys.map (kfY Hu) = rows'.map keyY := by
        refine List.ext_getElem? fun i => ?_
        rw [List.getElem?_map, List.getElem?_map]
        cases e : ys[i]? with
        | none =>
          have h1 := List.getElem?_eq_none_iff.mp e
          have hl := hy.1
          rw [List.length_map] at hl
          rw [List.getElem?_eq_none (by omega)]
          rfl
        | some v =>
          obtain ⟨r, er, hr⟩ := hy.atM e
          obtain ⟨_, _, _, _, h5⟩ := hr.row3
          rw [er]
          exact congrArg some h5
      have s2 := same_upd (o := .lst ys) np
      refine q p ys rows' _ (sU.free np) upd_same ((hy.less (fun a ha => List.mem_cons_of_mem _ ha)).same s2) ⟨fun r => (hp.mem_iff).trans (hR.mem r), ?_⟩ (by rw [stb.perm.length_eq, ← hkl]; exact hzl) (sU.trans s2)
      have p1 : (ys.map (kfY Hu)).Pairwise fun x y => SrtK.lexK y x = false := List.pairwise_map.mpr srt
      rw [keyy] at p1
      have nd' : (rows'.map keyY).Nodup := (hp.map keyY).nodup_iff.mpr hR.nd
      have p2 := List.Pairwise.and p1 nd'
      refine (List.pairwise_map.mp p2).imp fun {a b} ⟨h1, h2⟩ => ?_
      cases hc : SrtK.lexK (keyY a) (keyY b) with
      | true => rfl
      | false => exact absurd (SrtK.lexK_tot hc h1) h2
end

/-! ### ends_in -/
theorem Sto.more {E : List Int} {SP : List Spt} {cs : List Addr} {H : Hp} {s D : Addr} {W : Whr} (h : Sto E SP cs H s W) (n : H D = none) : Sto E SP (D :: cs) (upd H D (.lst [])) s W := by
  have s0 := same_upd (o := .lst []) n
  obtain ⟨kvs, es, m⟩ := h.at_
  refine ⟨h.el, h.sl, h.ch, fun c hc => ?_, kvs, s0 _ _ es, m.nd, fun e he => ?_, m.all⟩
  · rcases List.mem_cons.mp hc with z | z
    · exact ⟨[], by rw [z]; exact upd_same⟩
    · obtain ⟨ws, e⟩ := h.al c z
      exact ⟨ws, s0 _ _ e⟩
  · obtain ⟨sp, l, rs, h1, h2, h3, h4, h5, h6⟩ := m.ent e he
    refine ⟨sp, l, rs, h1, h2, h3, h4.kpl (KpL.same s0), h5, fun z => ?_⟩
    rcases List.mem_cons.mp z with y | y
    · obtain ⟨us, e1, _⟩ := h4
      rw [y, n] at e1
      cases e1
    · exact h6 y
theorem StR.more {E : List Int} {SP : List Spt} {cs : List Addr} {H : Hp} {D : Addr} {kvs : List (L2.Key × V)} {st : StF} {as : List Addr} (h : StR E SP cs H kvs st as) (n : H D = none) : StR E SP (D :: cs) (upd H D (.lst [])) kvs st as :=
  ⟨h.keys, h.len, h.nd, h.and, fun i a e h1 h2 => (h.sto i a e h1 h2).more n⟩
theorem rising_strict : ∀ {p : Str} {xs : List Str}, risingS p xs = true → (p :: xs).Nodup → (p :: xs).Pairwise (fun a b => a.cps.toList < b.cps.toList)
  | p, [], _, _ => List.pairwise_singleton ..
  | p, x :: r, h, nd => by
    have h : (!ltCps x.cps.toList p.cps.toList && risingS x r) = true := h
    rw [Bool.and_eq_true, Bool.not_eq_true', ltCps_eq] at h
    obtain ⟨h1, h2⟩ := h
    obtain ⟨n1, n2⟩ := List.nodup_cons.mp nd
    have ih := rising_strict h2 n2
    have lt : p.cps.toList < x.cps.toList := Decidable.byContradiction fun z => n1 (by rw [SrtK.str_tot z (of_decide_eq_false h1)]; exact List.mem_cons_self ..)
    refine List.pairwise_cons.mpr ⟨fun y hy => ?_, ih⟩
    rcases List.mem_cons.mp hy with e | e
    · rw [e]; exact lt
    · exact List.lt_trans lt ((List.pairwise_cons.mp ih).1 y e)
theorem sorted_strict {xs : List Str} (h : sortedS xs = true) (nd : xs.Nodup) : xs.Pairwise (fun a b => a.cps.toList < b.cps.toList) := by
  cases xs with
  | nil => exact List.Pairwise.nil
  | cons x r => exact rising_strict h nd
def wds3 : List Str := ["back", "lacking", "sold"]
def kwY (n w : Str) : List L2.Key := [.inr n, .inr w]
def kw3 (n : Str) : List (List L2.Key) := wds3.map (kwY n)
theorem kw_up (n : Str) {v w : Str} (h : v.cps.toList < w.cps.toList) : SrtK.lexK (kwY n v) (kwY n w) = true := by
  have ne : ¬ (Sum.inr v : L2.Key) = .inr w := fun z => by
    have := Sum.inr.inj z
    rw [this] at h
    exact List.lt_irrefl _ h
  show (if (Sum.inr n : L2.Key) = .inr n then (if (Sum.inr v : L2.Key) = .inr w then SrtK.lexK [] [] else SrtK.kltB (.inr v) (.inr w)) else _) = true
  rw [if_pos rfl, if_neg ne]
  exact decide_eq_true h
theorem kn_up {n m : Str} (h : n.cps.toList < m.cps.toList) (v w : Str) : SrtK.lexK (kwY n v) (kwY m w) = true := by
  have ne : ¬ (Sum.inr n : L2.Key) = .inr m := fun z => by
    have := Sum.inr.inj z
    rw [this] at h
    exact List.lt_irrefl _ h
  show (if (Sum.inr n : L2.Key) = .inr m then _ else SrtK.kltB (.inr n) (.inr m)) = true
  rw [if_neg ne]
  exact decide_eq_true h
theorem wds3_up : wds3.Pairwise (fun a b => a.cps.toList < b.cps.toList) := by
  unfold wds3
  refine List.pairwise_cons.mpr ⟨fun x hx => ?_, List.pairwise_cons.mpr ⟨fun x hx => ?_, List.pairwise_singleton ..⟩⟩
  · rcases List.mem_cons.mp hx with e | e
    · rw [e]; decide +kernel
    · rw [List.mem_singleton.mp e]; decide +kernel
  · rw [List.mem_singleton.mp hx]; decide +kernel
theorem kw3_up : ∀ {ns : List Str}, ns.Pairwise (fun a b => a.cps.toList < b.cps.toList) → (ns.flatMap kw3).Pairwise (fun a b => SrtK.lexK a b = true)
  | [], _ => List.Pairwise.nil
  | n :: r, h => by
    obtain ⟨h1, h2⟩ := List.pairwise_cons.mp h
    rw [List.flatMap_cons]
    refine List.pairwise_append.mpr ⟨?_, kw3_up h2, fun x hx y hy => ?_⟩
    · exact List.pairwise_map.mpr (wds3_up.imp fun h => kw_up n h)
    · obtain ⟨v, _, rfl⟩ := List.mem_map.mp hx
      obtain ⟨m, hm, hy⟩ := List.mem_flatMap.mp hy
      obtain ⟨w, _, rfl⟩ := List.mem_map.mp hy
      exact kn_up (h1 m hm) v w
/-- what ended: each name's cases of each word, in order -/
structure EnR (st : StF) (out : List Row3) : Prop where
  mem : ∀ r, r ∈ out ↔ ∃ e ∈ st, r.1 = e.1 ∧ r.2.1 ∈ wds3 ∧ Told (AtWd e.2 r.2.1) r.2.2 ∧ r.2.2 ≠ []
  up : out.Pairwise fun a b => SrtK.lexK (keyY a) (keyY b) = true
theorem EnR.one {st : StF} {o1 o2 : List Row3} (h1 : EnR st o1) (h2 : EnR st o2) : o1 = o2 := srtY_one (fun r => (h1.mem r).trans (h2.mem r).symm) h1.up h2.up
/-- the rows of the first names and words -/
structure EnP (st : StF) (ks : List (List L2.Key)) (rows : List Row3) : Prop where
  keys : rows.map keyY = ks
  told : ∀ r ∈ rows, ∃ e ∈ st, r.1 = e.1 ∧ Told (AtWd e.2 r.2.1) r.2.2
theorem EnP.more {st : StF} {ks : List (List L2.Key)} {rows : List Row3} (h : EnP st ks rows) {e : Str × Whr} {w : Str} {rs : Prs2} (he : e ∈ st) (ht : Told (AtWd e.2 w) rs) : EnP st (ks ++ [kwY e.1 w]) (rows ++ [(e.1, w, rs)]) := by
  refine ⟨by rw [List.map_append, h.keys]; rfl, fun r hr => ?_⟩
  rcases List.mem_append.mp hr with z | z
  · exact h.told r z
  · rw [List.mem_singleton.mp z]
    exact ⟨e, he, rfl, ht⟩
theorem EnP.all {st : StF} {ns : List Str} {rows : List Row3} (h : EnP st (ns.flatMap kw3) rows) (nd : (st.map (·.1)).Nodup) (hp : ns.Perm (st.map (·.1))) (hs : sortedS ns = true) : EnR st (rows.filter fun r => !r.2.2.isEmpty) := by
  have hup := kw3_up (sorted_strict hs (hp.nodup_iff.mpr nd))
  rw [← h.keys] at hup
  refine ⟨fun r => ?_, (List.pairwise_map.mp hup).sublist List.filter_sublist⟩
  rw [List.mem_filter]
  constructor
  · rintro ⟨h1, h2⟩
    obtain ⟨e, he, e1, ht⟩ := h.told r h1
    refine ⟨e, he, e1, ?_, ht, fun z => by rw [z] at h2; cases h2⟩
    have : keyY r ∈ ns.flatMap kw3 := by rw [← h.keys]; exact List.mem_map.mpr ⟨r, h1, rfl⟩
    obtain ⟨n, _, hk⟩ := List.mem_flatMap.mp this
    obtain ⟨w, hw, ew⟩ := List.mem_map.mp hk
    have : w = r.2.1 := Sum.inr.inj (List.cons.inj (List.cons.inj ew).2).1
    rw [← this]
    exact hw
  · rintro ⟨e, he, e1, hw, ht, hne⟩
    have hk : keyY r ∈ rows.map keyY := by
      rw [h.keys]
      refine List.mem_flatMap.mpr ⟨e.1, hp.mem_iff.mpr (List.mem_map.mpr ⟨e, he, rfl⟩), List.mem_map.mpr ⟨r.2.1, hw, ?_⟩⟩
      rw [← e1]
      rfl
    obtain ⟨r', hr', ek⟩ := List.mem_map.mp hk
    have k1 : r'.1 = r.1 := Sum.inr.inj (List.cons.inj ek).1
    have k2 : r'.2.1 = r.2.1 := Sum.inr.inj (List.cons.inj (List.cons.inj ek).2).1
    obtain ⟨e', he', e1', ht'⟩ := h.told r' hr'
    have ee : e' = e := inj_nodup' nd he' he (by rw [← e1', k1, e1])
    rw [ee, k2] at ht'
    have k3 := ht'.one ht fun _ => Iff.rfl
    have : r' = r := Prod.ext k1 (Prod.ext k2 k3)
    rw [← this] at hne ⊢
    refine ⟨hr', ?_⟩
    cases hc : r'.2.2 with
    | nil => exact absurd hc hne
    | cons _ _ => rfl
def spEnds (K : PySem.W.Frag) : Sp := fun vs H Q _ => ∃ (S : Addr) (kvs : List (L2.Key × V)) (st : StF) (as cs : List Addr) (E : List Int) (SP : List Spt), vs = [.ref S] ∧ H S = some (.dK kvs) ∧ StR E SP cs H kvs st as ∧ st.length < 64 ∧
  ∀ l zs out H', H l = none → H' l = some (.lst zs) → ThgL cs H' zs (out.map row3D) → EnR st out → zs.length ≤ 3 * st.length → Same H H' → Q (.ref l) H'
abbrev sEnds : Stmt := topS 28
theorem scEnds : FnScope ["stores", "ends", "name", "word", "end"] ["stores"] (defScope sEnds) := ⟨rfl, rfl, rfl, by decide +kernel, rfl, by decide +kernel, by decide +kernel⟩
section
variable {K : PySem.W.Frag} {mg : Str → Option Value} {P : Program} {w : World} {base : Heap}
theorem ok_Ends {f : Addr} {fd : FuncData} (F : Fun K "ends_in" "ends_in" sEnds f fd) (C_cases_at : Cal P w K mg base 2 "cases_at" ["store", "word"] (spCasesAt K)) (c_BACK : ∃ u, mg "BACK" = some u ∧ RelV (.str "back") u) (c_LACKING : ∃ u, mg "LACKING" = some u ∧ RelV (.str "lacking") u) (c_SOLD : ∃ u, mg "SOLD" = some u ∧ RelV (.str "sold") u) (m_sorted : mg "sorted" = none) : FnOk P w K mg base CX0 3 f fd ["stores"] (spEnds K) := by
  refine F.ok scEnds (fun vs H Q E h => ?_) (fun cdv A outer s H vs Q E hr h => ?_)
  · obtain ⟨S, kvs, st, as, cs, E, SP, rfl, _⟩ := h
    rfl
  · obtain ⟨S, kvs, st, as, cs, E, SP, rfl, eS, hSt, h64, q⟩ := h
    refine ⟨_, pss_cons (ps_setLc2 (i := 1) (own := [("name", 2), ("word", 3)]) (vs1 := [3]) (g := gName 2) (tt := tYes) (wi1 := iTup K (tTup (tCons (tC (.str "back")) (tCons (tC (.str "lacking")) (tCons (tC (.str "sold")) tNil))))) (g1 := gName 3) (tt1 := tYes) (te := tTup (tCons (tVar 2) (tCons (tVar 3) (tCons (tCall (spCasesAt K) [] E0 (tCons (tDGet (tVar 0) (tVar 2)) (tCons (tVar 3) tNil))) tNil)))) rfl scEnds.nd rfl rfl (sw_true rfl rfl rfl (by decide +kernel)) (pi_list (pe_callB (call_sortedD rfl) (by rfl) m_sorted (by decide +kernel) (pa_cons (pv 0) pa_nil))) (blkOk_by (own := [("name", 2), ("word", 3)]) (N := ["stores", "ends", "name", "word", "end"]) (sc := defScope sEnds) (by decide +kernel)) (by decide) (fun _ _ _ _ _ => pg_name (i := 2) scEnds.nd rfl (.inl rfl)) (fun _ _ _ _ _ => pts_nil) (fun _ _ _ _ _ => pi_tup (pe_tup (pa_cons (C8.pe_gc (by rfl) c_BACK) (pa_cons (C8.pe_gc (by rfl) c_LACKING) (pa_cons (C8.pe_gc (by rfl) c_SOLD) pa_nil))))) (fun _ _ _ _ _ => pg_name (i := 3) scEnds.nd rfl (.inl rfl)) (fun _ _ _ _ _ => pts_nil) (fun _ _ _ _ _ => pe_tup (pa_cons (pv 2) (pa_cons (pv 3) (pa_cons (pe_own C_cases_at (hr.mono (show 2 ≤ 2 by decide)) (by rfl) (pa_cons (pe_dget (hu_of hr) (pv 0) (pv 2) (fun _ _ => rfl)) (pa_cons (pv 3) pa_nil))) pa_nil)))))
      (pss_one (ps_ret (pe_lc (own := [("end", 4)]) (g := (gName 4)) (tt := (tTru K (tOp (rIxT K) (tVar 4) (tC (.int 2))))) (te := (tVar 4)) rfl scEnds.nd (pi_list (pv 1)) (blkOk_by (own := [("end", 4)]) (N := ["stores", "ends", "name", "word", "end"]) (sc := defScope sEnds) (by decide +kernel)) (fun _ _ _ _ _ => (pg_name (i := 4) scEnds.nd rfl (.inl rfl))) (fun _ _ _ _ _ => (pts_one (pt_truth (pe_ix ix_tup (pv 4) pe_int (fun _ _ => rfl)) (by intro _; rfl)))) (fun _ _ _ _ _ => (pv 4))))), ?_⟩
    have hkn : kvs.map (·.1) = (st.map (·.1)).map Sum.inr := by
      have := hSt.nam
      unfold NamK at this
      rw [this, List.map_map]
      rfl
    refine ⟨_, rfl, S, kvs, st.map (·.1), rfl, .inl eS, hkn, by rw [List.length_map]; exact h64, fun ns p hp hs np => ?_⟩
    have sp := same_upd (o := .lst (ns.map V.str)) np
    have ep := upd_same (H := H) (a := p) (o := .lst (ns.map V.str))
    have hSp := hSt.same sp
    have eSp := sp _ _ eS
    have hnl : ns.length < 64 := by rw [hp.length_eq, List.length_map]; exact h64
    revert sp ep hSp eSp
    generalize upd H p (.lst (ns.map V.str)) = H1
    intro sp ep hSp eSp
    refine ⟨p, rfl, ⟨_, SqL.of ep⟩, fun D nD => ?_⟩
    refine walk_W (walk_list (xs := ns.map V.str)) (fun i H' => Same H1 H' ∧ StR E SP (D :: cs) H' kvs st as ∧ ∃ zs rows, H' D = some (.lst zs) ∧ ThgL (D :: cs) H' zs (rows.map row3D) ∧ EnP st ((ns.take i).flatMap kw3) rows ∧ zs.length ≤ 3 * i) ⟨same_upd nD, hSp.more nD, [], [], upd_same, ThgL.nil, ⟨rfl, (fun _ z => nomatch z)⟩, by simp⟩ (fun i H' _ hP => SqL.of (hP.1 _ _ ep)) (fun i x H' H'' hi hP hy => ?_) (fun H' hP => ?_)
    · obtain ⟨sm, hS2, zs, rows, eD, hz, hR, hzl⟩ := hP
      obtain ⟨rfl, hx⟩ := hy
      have hx : (ns.map V.str)[i]? = some x := hx
      rw [List.getElem?_map] at hx
      obtain ⟨n, en, rfl⟩ := Option.map_eq_some_iff.mp hx
      have hi' : i < ns.length := (List.getElem?_eq_some_iff.mp en).1
      have etk : ns.take (i + 1) = ns.take i ++ [n] := by rw [List.take_add_one, en]; rfl
      have hn : hasN st n = true := by
        obtain ⟨e, he, ee⟩ := List.mem_map.mp (hp.mem_iff.mp (List.mem_of_getElem? en))
        exact List.any_eq_true.mpr ⟨e, he, decide_eq_true ee⟩
      refine ⟨rfl, by show 3 ≤ sizeLine; decide, fun T nT => ⟨T, rfl, ⟨_, .inl (.inl upd_same)⟩, ?_⟩⟩
      have sT := same_upd (o := .tup [V.str "back", .str "lacking", .str "sold"]) nT
      have eT := upd_same (H := H'') (a := T) (o := .tup [V.str "back", .str "lacking", .str "sold"])
      have smT := sm.trans sT
      have hST := hS2.same sT
      have eDT := sT _ _ eD
      have hzT := hz.same sT
      revert eT smT hST eDT hzT
      generalize upd H'' T (.tup [V.str "back", .str "lacking", .str "sold"]) = H2
      intro eT smT hST eDT hzT
      refine walk_W (walk_tup (xs := wds3.map V.str)) (fun j H3 => Same H1 H3 ∧ StR E SP (D :: cs) H3 kvs st as ∧ H3 T = some (.tup [V.str "back", .str "lacking", .str "sold"]) ∧ ∃ zs rows, H3 D = some (.lst zs) ∧ ThgL (D :: cs) H3 zs (rows.map row3D) ∧ EnP st ((ns.take i).flatMap kw3 ++ (wds3.take j).map (kwY n)) rows ∧ zs.length ≤ 3 * i + j) ⟨smT, hST, eT, zs, rows, eDT, hzT, by rw [List.take_zero, List.map_nil, List.append_nil]; exact hR, by omega⟩ (fun j H3 _ hP => .inl (.inl hP.2.2.1)) (fun j x H3 H3' hj hP hy => ?_) (fun H3 hP => ?_)
      · obtain ⟨sm3, hS3, eT3, zs3, rows3, eD3, hz3, hR3, hzl3⟩ := hP
        obtain ⟨rfl, hx⟩ := hy
        have hx : (wds3.map V.str)[j]? = some x := hx
        rw [List.getElem?_map] at hx
        obtain ⟨wd, ew, rfl⟩ := Option.map_eq_some_iff.mp hx
        have hj3 : j < 3 := (List.getElem?_eq_some_iff.mp ew).1
        have etw : wds3.take (j + 1) = wds3.take j ++ [wd] := by rw [List.take_add_one, ew]; rfl
        obtain ⟨i1, a1, e1, ea1, ei1, een, hv, _, hSto⟩ := hS3.get hn
        refine ⟨rfl, _, rfl, _, rfl, _, rfl, _, rfl, S, .ref a1, rfl, .inl ⟨kvs, .inr n, .inl (sm3 _ _ eSp), rfl, hv.symm⟩, _, rfl, a1, wd, E, SP, D :: cs, e1.2, rfl, hSto, fun l rs H4 nl hl ht s4 => ⟨by show 3 ≤ sizeLine; decide, fun T3 nT3 => ?_⟩⟩
        have hlc := hSto.fresh nl
        have sT3 := same_upd (o := .tup [V.str n, .str wd, .ref l]) nT3
        have s5 := s4.trans sT3
        obtain ⟨us, el, hus⟩ := hl
        have eD5 := s5 _ _ eD3
        have hrow : Thg (D :: cs) (upd H4 T3 (.tup [V.str n, .str wd, .ref l])) (.ref T3) (row3D (e1.1, wd, rs)) := by
          rw [een]
          exact ThgL.tup (.cons (.str _) (.cons (.str _) (.one ((prs_thg (hus.same sT3)).lst (sT3 _ _ el) hlc)))) upd_same
        have hz5 := hz3.same s5
        have hS5 := hS3.same s5
        have sm5 := sm3.trans s5
        have eT5 := s5 _ _ eT3
        revert eD5 hrow hz5 hS5 sm5 eT5
        generalize upd H4 T3 (.tup [V.str n, .str wd, .ref l]) = H5
        intro eD5 hrow hz5 hS5 sm5 eT5
        have nTD : T ≠ D := fun z => by rw [z, eD5] at eT5; cases eT5
        refine ⟨zs3, eD5, by rw [sizeLine_eq]; omega, fun b o eb => ?_, hS5.updL (List.mem_cons_self ..) eD5, by rw [upd_ne nTD]; exact eT5, zs3 ++ [.ref T3], rows3 ++ [(e1.1, wd, rs)], upd_same, ?_, ?_, by rw [List.length_append]; show zs3.length + 1 ≤ _; omega⟩
        · rw [upd_ne (ne_of_none eb nD)]
          exact sm5 b o eb
        · rw [List.map_append]
          exact (hz5.upd eD5 (List.mem_cons_self ..)).append (ThgL.one (hrow.upd eD5 (List.mem_cons_self ..)))
        · rw [etw, List.map_append, ← List.append_assoc]
          have := hR3.more (w := wd) (rs := rs) (List.mem_of_getElem? ei1) ht
          rw [een] at this ⊢
          exact this
      · obtain ⟨sm3, hS3, eT3, zs3, rows3, eD3, hz3, hR3, hzl3⟩ := hP
        refine ⟨sm3, hS3, zs3, rows3, eD3, hz3, ?_, by have : (wds3.map V.str).length = 3 := rfl; omega⟩
        rw [etk, List.flatMap_append]
        have e3 : wds3.take (wds3.map V.str).length = wds3 := rfl
        rw [e3] at hR3
        rw [List.flatMap_cons, List.flatMap_nil, List.append_nil]
        exact hR3
    obtain ⟨sm, hS2, zs, rows, eD, hz, hR, hzl⟩ := hP
    rw [List.length_map, List.take_length] at hR
    rw [List.length_map] at hzl
    have hRR := hR.all hSt.nd hp hs
    refine ⟨_, rfl, D, rfl, ⟨_, SqL.of eD⟩, fun D2 nD2 => lc_it walk_list (fun j H2 => Same H' H2 ∧ ∃ ws, H2 D2 = some (.lst ws) ∧ ThgL (D2 :: D :: cs) H2 ws (((rows.take j).filter fun r => !r.2.2.isEmpty).map row3D) ∧ ws.length ≤ j) ⟨same_upd nD2, [], upd_same, ThgL.nil, Nat.le_refl _⟩ (fun j H2 _ hP => SqL.of (hP.1 _ _ eD)) (fun j x H2 H2' hj hP hy => ?_) (fun H3 hP => ?_)⟩
    · obtain ⟨sm2, ws, eD2, hw, hwl⟩ := hP
      obtain ⟨rfl, hx⟩ := hy
      obtain ⟨r, er, hr⟩ := hz.atM hx
      have etk : rows.take (j + 1) = rows.take j ++ [r] := by rw [List.take_add_one, er]; rfl
      have hj' : j < zs.length := (List.getElem?_eq_some_iff.mp hx).1
      have hr0 := (hr.more nD2).same sm2
      obtain ⟨T, xs, rfl, eT, h1⟩ := (hr.same sm2).tuple
      obtain ⟨x1, w1, rfl, g1, h2⟩ := h1.inv
      obtain ⟨x2, w2, rfl, g2, h3⟩ := h2.inv
      obtain ⟨x3, w3, rfl, g3, h4⟩ := h3.inv
      obtain ⟨l, us, rfl, el, hlc, hus⟩ := g3.list
      refine ⟨rfl, _, rfl, T, _, 2, _, rfl, rfl, .inl (.inl eT), atI_nat (j := 2) rfl, ?_⟩
      have hul := hus.1
      rw [List.length_map] at hul
      cases us with
      | nil =>
        have e0 : r.2.2 = [] := List.eq_nil_of_length_eq_zero hul.symm
        refine ⟨false, .inl ⟨_, SqL.of el, rfl⟩, iteF ⟨sm2, ws, eD2, ?_, by omega⟩⟩
        rw [etk, List.filter_append, List.filter_cons_of_neg (by rw [e0]; decide), List.filter_nil, List.append_nil]
        exact hw
      | cons u0 us =>
        have e0 : (!r.2.2.isEmpty) = true := by
          cases hc : r.2.2 with
          | nil => rw [hc] at hul; cases hul
          | cons _ _ => rfl
        refine ⟨true, .inl ⟨_, SqL.of el, rfl⟩, iteT ⟨_, rfl, ws, eD2, by rw [sizeLine_eq]; omega, fun b o eb => ?_, ws ++ [.ref T], upd_same, ?_, by rw [List.length_append]; show ws.length + 1 ≤ j + 1; omega⟩⟩
        · rw [upd_ne (ne_of_none eb nD2)]
          exact sm2 _ _ eb
        · rw [etk, List.filter_append, List.filter_cons_of_pos (by exact e0), List.filter_nil, List.map_append]
          exact (hw.upd eD2 (List.mem_cons_self ..)).append (ThgL.one (hr0.upd eD2 (List.mem_cons_self ..)))
    obtain ⟨sm2, ws, eD2, hw, hwl⟩ := hP
    rw [hz.1, List.length_map, List.take_length] at hw
    exact q D2 ws _ H3 (sp.free (sm.free nD2)) eD2 (hw.less fun a ha => List.mem_cons_of_mem _ (List.mem_cons_of_mem _ ha)) hRR (by have h1 := hp.length_eq; rw [List.length_map] at h1; omega) (sp.trans (sm.trans sm2))
end

mutual
/-- no truth among it -/
def NoBl : PyData → Prop
  | .bool _ => False
  | .list ds => NoBls ds
  | .tuple ds => NoBls ds
  | _ => True
def NoBls : List PyData → Prop
  | [] => True
  | d :: ds => NoBl d ∧ NoBls ds
end
theorem noBls_all : ∀ {ds : List PyData}, NoBls ds → ∀ d ∈ ds, NoBl d
  | [], _, _, h => nomatch h
  | e :: r, h, d, hd => by
    rw [NoBls] at h
    rcases List.mem_cons.mp hd with z | z
    · rw [z]; exact h.1
    · exact noBls_all h.2 d z
theorem noBls_of : ∀ {ds : List PyData}, (∀ d ∈ ds, NoBl d) → NoBls ds
  | [], _ => by rw [NoBls]; trivial
  | e :: r, h => by rw [NoBls]; exact ⟨h e (List.mem_cons_self ..), noBls_of fun d hd => h d (List.mem_cons_of_mem _ hd)⟩
abbrev sSame : Stmt := topS 35
theorem scSame : FnScope ["_law_found", "_law_due", "_law_one", "_law_other"] ["_law_found", "_law_due"] (defScope sSame) := ⟨rfl, rfl, rfl, by decide +kernel, rfl, by decide +kernel, by decide +kernel⟩
/-- alike: the same data twice (no truths among it) -/
def spSame (n : Nat) : Sp := fun vs H Q _ => ∃ (v u : V) (d : PyData), vs = [v, u] ∧ Dat H v d ∧ Dat H u d ∧ Sm n d ∧ NoBl d ∧ ∀ H', Same H H' → Q (.bl true) H'
theorem all_true (n : Nat) : (List.replicate n true).all id = true := by
  rw [List.all_eq_true]
  intro b hb
  exact (List.mem_replicate.mp hb).2
abbrev SameGoal (K : PySem.W.Frag) (mg : Str → Option Value) (P : Program) (w : World) (base : Heap) (f : Addr) (cdv : Value) (A : Around) (outer : List Env) (s : Shared) (H : Hp) (E : XK) (v u : V) (Q : VK) : Prop :=
  ∃ t, PSs (cxOf CX0 P w K mg base ["_law_found", "_law_due", "_law_one", "_law_other"] "_law_same" (defScope sSame) f cdv A outer s H E).nox (defBody sSame) t ∧ t { nx := fun _ H' => Q .non H', rt := Q } (start ["_law_found", "_law_due", "_law_one", "_law_other"] [v, u]) H
section
variable {K : PySem.W.Frag} {mg : Str → Option Value} {P : Program} {w : World} {base : Heap}
/-- of no list, no tuple -/
theorem same_flat {f : Addr} (mi : mg "isinstance" = none) (ml : mg "list" = none) (mt : mg "tuple" = none) (mb : mg "bool" = none) (ms : mg "str" = none) (mn : mg "int" = none) {cdv : Value} {A : Around} {outer : List Env} {s : Shared} {H : Hp} {v u : V} {d : PyData} {Q : VK} {E : XK}
    (h1 : Dat H v d) (h2 : Dat H u d) (hd : Flat d) (hb : NoBl d) (q : ∀ H', Same H H' → Q (.bl true) H') : SameGoal K mg P w base f cdv A outer s H E v u Q := by
  refine ⟨_, pss_cons (ps_if (pt_cmpR op_isN (pv 1) pe_non (nomark _)) (pss_one (ps_ret (pe_cmpR op_isN (pv 0) pe_non (nomark _)))) pss_nil)
      (pss_cons (ps_if (PW.pt (pw_or (pt_val (pe_callB call_isi (by rfl) mi (by decide +kernel) (pa_cons (pv 1) (pa_cons (pe_bltn (v := .ty "list") (by rfl) ml (by decide +kernel) rfl) pa_nil)))) (pw_or1 (pt_val (pe_callB call_isi (by rfl) mi (by decide +kernel) (pa_cons (pv 1) (pa_cons (pe_bltn (v := .ty "tuple") (by rfl) mt (by decide +kernel) rfl) pa_nil))))))) pss_never pss_nil)
      (pss_cons (ps_if (pt_val (pe_callB call_isi (by rfl) mi (by decide +kernel) (pa_cons (pv 1) (pa_cons (pe_bltn (v := .ty "str") (by rfl) ms (by decide +kernel) rfl) pa_nil)))) (pss_one (ps_ret (pe_and (pe_callB call_isi (by rfl) mi (by decide +kernel) (pa_cons (pv 0) (pa_cons (pe_bltn (v := .ty "str") (by rfl) ms (by decide +kernel) rfl) pa_nil))) (pe_one (pe_cmpR op_eq (pv 0) (pv 1) (nomark _)))))) pss_nil)
      (pss_one (ps_ret (pe_and (pe_callB call_isi (by rfl) mi (by decide +kernel) (pa_cons (pv 0) (pa_cons (pe_bltn (v := .ty "int") (by rfl) mn (by decide +kernel) rfl) pa_nil))) (pe_and (pe_not (pe_callB call_isi (by rfl) mi (by decide +kernel) (pa_cons (pv 0) (pa_cons (pe_bltn (v := .ty "bool") (by rfl) mb (by decide +kernel) rfl) pa_nil)))) (pe_one (pe_cmpR op_eq (pv 0) (pv 1) (nomark _))))))))), ?_⟩
  have deq : ∀ x : V, (decide (x = x)) = true := fun x => decide_eq_true rfl
  rcases hd with rfl | ⟨b, rfl⟩ | ⟨i, rfl⟩ | ⟨x, rfl⟩
  · cases h1
    cases h2
    refine ⟨_, rfl, rfl, _, rfl, iteT ?_⟩
    exact ⟨_, rfl, rfl, q _ (Same.refl H)⟩
  · rw [NoBl] at hb
    exact hb.elim
  · cases h1
    cases h2
    refine ⟨_, rfl, rfl, _, rfl, iteF ?_⟩
    refine ⟨_, rfl, _, _, .type "int", .type "list", false, rfl, .ty _, .base (.int i), kit_ty (by decide +kernel), _, rfl, iteF ?_⟩
    refine ⟨_, rfl, _, _, .type "int", .type "tuple", false, rfl, .ty _, .base (.int i), kit_ty (by decide +kernel), _, rfl, iteF ?_⟩
    refine ⟨_, rfl, _, _, .type "int", .type "str", false, rfl, .ty _, .base (.int i), kit_ty (by decide +kernel), _, rfl, iteF ?_⟩
    refine ⟨_, rfl, _, _, .type "int", .type "int", true, rfl, .ty _, .base (.int i), kit_ty (by decide +kernel), _, rfl, iteT ?_⟩
    refine ⟨_, rfl, _, _, .type "int", .type "bool", false, rfl, .ty _, .base (.int i), kit_ty (by decide +kernel), _, rfl, _, rfl, iteT ?_⟩
    refine ⟨_, rfl, _, rfl, rfl, ?_⟩
    rw [deq]
    exact q _ (Same.refl H)
  · cases h1
    cases h2
    refine ⟨_, rfl, rfl, _, rfl, iteF ?_⟩
    refine ⟨_, rfl, _, _, .type "str", .type "list", false, rfl, .ty _, .base (.str x), kit_ty (by decide +kernel), _, rfl, iteF ?_⟩
    refine ⟨_, rfl, _, _, .type "str", .type "tuple", false, rfl, .ty _, .base (.str x), kit_ty (by decide +kernel), _, rfl, iteF ?_⟩
    refine ⟨_, rfl, _, _, .type "str", .type "str", true, rfl, .ty _, .base (.str x), kit_ty (by decide +kernel), _, rfl, iteT ?_⟩
    refine ⟨_, rfl, _, _, .type "str", .type "str", true, rfl, .ty _, .base (.str x), kit_ty (by decide +kernel), _, rfl, iteT ?_⟩
    refine ⟨_, rfl, _, rfl, rfl, ?_⟩
    rw [deq]
    exact q _ (Same.refl H)
theorem ok_same0 {f : Addr} {fd : FuncData} {k : Nat} (F : Fun K "_law_same" "_law_same" sSame f fd) (mi : mg "isinstance" = none) (ml : mg "list" = none) (mt : mg "tuple" = none) (mb : mg "bool" = none) (ms : mg "str" = none) (mn : mg "int" = none) :
    FnOk P w K mg base CX0 (k + 1) f fd ["_law_found", "_law_due"] (spSame 0) := by
  refine F.ok scSame (fun vs H Q E h => ?_) (fun cdv A outer s H vs Q E hr h => ?_)
  · obtain ⟨v, u, d, rfl, _⟩ := h
    rfl
  · obtain ⟨v, u, d, rfl, h1, h2, hd, hb, q⟩ := h
    exact same_flat mi ml mt mb ms mn h1 h2 hd.flat hb q
theorem ok_sameS {f : Addr} {fd : FuncData} {n k : Nat} (F : Fun K "_law_same" "_law_same" sSame f fd) (C : Cal P w K mg base k "_law_same" ["_law_found", "_law_due"] (spSame n)) (mi : mg "isinstance" = none) (ml : mg "list" = none) (mt : mg "tuple" = none) (mb : mg "bool" = none) (ms : mg "str" = none) (mn : mg "int" = none) (me : mg "len" = none) (ma : mg "all" = none) (mz : mg "zip" = none) :
    FnOk P w K mg base CX0 (k + 1) f fd ["_law_found", "_law_due"] (spSame (n + 1)) := by
  refine F.ok scSame (fun vs H Q E h => ?_) (fun cdv A outer s H vs Q E hr h => ?_)
  · obtain ⟨v, u, d, rfl, _⟩ := h
    rfl
  · obtain ⟨v, u, d, rfl, h1, h2, hd, hb, q⟩ := h
    rcases hd.cases with hf | ⟨ds, rfl, hl, hall⟩ | ⟨ds, rfl, hl, hall⟩
    · exact same_flat mi ml mt mb ms mn h1 h2 hf hb q
    · refine ⟨_, pss_cons (ps_if (pt_cmpR op_isN (pv 1) pe_non (nomark _)) (pss_one (ps_ret (pe_cmpR op_isN (pv 0) pe_non (nomark _)))) pss_nil)
        (pss_cons (ps_if (PW.pt (pw_or (pt_val (pe_callB call_isi (by rfl) mi (by decide +kernel) (pa_cons (pv 1) (pa_cons (pe_bltn (v := .ty "list") (by rfl) ml (by decide +kernel) rfl) pa_nil)))) (pw_or1 (pt_val (pe_callB call_isi (by rfl) mi (by decide +kernel) (pa_cons (pv 1) (pa_cons (pe_bltn (v := .ty "tuple") (by rfl) mt (by decide +kernel) rfl) pa_nil)))))))
          (pss_cons (ps_if (pt_cmpR op_ne (pe_callB call_isi (by rfl) mi (by decide +kernel) (pa_cons (pv 0) (pa_cons (pe_bltn (v := .ty "list") (by rfl) ml (by decide +kernel) rfl) pa_nil))) (pe_callB call_isi (by rfl) mi (by decide +kernel) (pa_cons (pv 1) (pa_cons (pe_bltn (v := .ty "list") (by rfl) ml (by decide +kernel) rfl) pa_nil))) (nomark _)) (pss_one (ps_ret pe_bl)) pss_nil)
          (pss_cons (ps_if (PW.pt (pw_or (pt_cmpR op_ne (pe_callB call_isi (by rfl) mi (by decide +kernel) (pa_cons (pv 0) (pa_cons (pe_bltn (v := .ty "tuple") (by rfl) mt (by decide +kernel) rfl) pa_nil))) (pe_callB call_isi (by rfl) mi (by decide +kernel) (pa_cons (pv 1) (pa_cons (pe_bltn (v := .ty "tuple") (by rfl) mt (by decide +kernel) rfl) pa_nil))) (nomark _)) (pw_or1 (pt_cmpR op_ne (pe_callB call_len_seq (by rfl) me PySem.boot_len (pa_cons (pv 0) pa_nil)) (pe_callB call_len_seq (by rfl) me PySem.boot_len (pa_cons (pv 1) pa_nil)) (nomark _))))) (pss_one (ps_ret pe_bl)) pss_nil)
          (pss_one (ps_ret (pe_callB (cr_all rfl) (by rfl) ma (by decide +kernel) (pa_cons (pe_lc (own := [("_law_one", 2), ("_law_other", 3)]) (g := gTup K 2 (gCons (gName 2) (gCons (gName 3) gNil))) (tt := tYes) (te := tCall (spSame n) [] E0 (tCons (tVar 2) (tCons (tVar 3) tNil))) rfl scSame.nd (RZ.pi_zipA (by rfl) mz (pa_cons (pv 0) (pa_cons (pv 1) pa_nil)))
            (blkOk_by (own := [("_law_one", 2), ("_law_other", 3)]) (N := ["_law_found", "_law_due", "_law_one", "_law_other"]) (sc := defScope sSame) (by decide +kernel)) (fun _ _ _ _ _ => pg_tup rfl (pgs_cons (pg_name (i := 2) scSame.nd rfl (.inl rfl)) (pgs_cons (pg_name (i := 3) scSame.nd rfl (.inl rfl)) pgs_nil))) (fun _ _ _ _ _ => pts_nil)
            (fun _ _ _ _ _ => pe_own C hr (by rfl) (pa_cons (pv 2) (pa_cons (pv 3) pa_nil)))) pa_nil)))))) pss_nil) pss_never), ?_⟩
      cases h1 with | lst ea la da => ?_
      cases h2 with | lst eb lb db => ?_
      rename_i a xs b ys
      have deq : ∀ x : V, (decide (x = x)) = true := fun x => decide_eq_true rfl
      have hbl := noBls_all (by simpa only [NoBl] using hb)
      refine ⟨_, rfl, rfl, false, congrArg V.bl (decide_eq_false (fun z => nomatch z)), iteF ?_⟩
      refine ⟨_, rfl, _, _, .type "list", .type "list", true, rfl, .ty _, .base (.lst eb), kit_ty (by decide +kernel), _, rfl, iteT (iteT ?_)⟩
      refine ⟨_, rfl, _, _, .type "list", .type "list", true, rfl, .ty _, .base (.lst ea), kit_ty (by decide +kernel), _, rfl, _, _, .type "list", .type "list", true, rfl, .ty _, .base (.lst eb), kit_ty (by decide +kernel), rfl, false, congrArg V.bl (by rw [deq]; rfl), iteF ?_⟩
      refine ⟨_, rfl, _, _, .type "list", .type "tuple", false, rfl, .ty _, .base (.lst ea), kit_ty (by decide +kernel), _, rfl, _, _, .type "list", .type "tuple", false, rfl, .ty _, .base (.lst eb), kit_ty (by decide +kernel), rfl, false, congrArg V.bl (by rw [deq]; rfl), iteF ?_⟩
      refine ⟨_, rfl, a, xs, rfl, Sq.list ea, _, rfl, b, ys, rfl, Sq.list eb, rfl, false, congrArg V.bl (by rw [decide_eq_true (congrArg (fun n : Nat => V.int (n : Int)) (la.trans lb.symm))]; rfl), iteF ?_⟩
      refine ⟨_, rfl, _, rfl, a, b, xs, ys, rfl, .inl ⟨SqL.of ea, SqL.of eb, fun D nD => lc_it (walk_zip (K := K) (a := a) (b := b) (xs := xs) (ys := ys) (n := ds.length) (by rw [la, lb, Nat.min_self])) (fun j H' => Same H H' ∧ H' D = some (.lst ((List.replicate j true).map V.bl))) ⟨same_upd nD, upd_same⟩
        (fun j H' _ hP => ⟨SqL.of (hP.1 _ _ ea), SqL.of (hP.1 _ _ eb)⟩) (fun j x H' H'' hj hP hy => ?_) (fun H3 hP => ?_)⟩⟩
      · obtain ⟨sm', eD⟩ := hP
        obtain ⟨T, x1, x2, rfl, nT, rfl, f1, f2⟩ := hy
        have st := same_upd (o := .tup [x1, x2]) nT
        have hdj : ds[j]? = some ds[j] := List.getElem?_eq_getElem hj
        have S := sm'.trans st
        refine ⟨T, _, rfl, .inl (.inl upd_same), rfl, _, _, rfl, _, _, rfl, rfl, rfl, ?_⟩
        refine ⟨_, rfl, _, rfl, x1, x2, ds[j], rfl, (da j x1 _ f1 hdj).same S, (db j x2 _ f2 hdj).same S, hall _ (List.getElem_mem hj), hbl _ (List.getElem_mem hj), fun H4 s4 => ?_⟩
        refine ⟨_, s4 _ _ (st _ _ eD), small1000 (by rw [List.length_map, List.length_replicate]; omega), fun c o e => ?_, ?_⟩
        · rw [upd_ne (ne_of_none e nD)]
          exact s4 _ _ (st _ _ (sm' c o e))
        · rw [upd_same, List.replicate_succ', List.map_append]
          rfl
      · obtain ⟨sm', eD⟩ := hP
        refine ⟨D, List.replicate ds.length true, rfl, SqL.of eD, ?_⟩
        rw [all_true]
        exact q _ sm'
    · refine ⟨_, pss_cons (ps_if (pt_cmpR op_isN (pv 1) pe_non (nomark _)) (pss_one (ps_ret (pe_cmpR op_isN (pv 0) pe_non (nomark _)))) pss_nil)
        (pss_cons (ps_if (PW.pt (pw_or (pt_val (pe_callB call_isi (by rfl) mi (by decide +kernel) (pa_cons (pv 1) (pa_cons (pe_bltn (v := .ty "list") (by rfl) ml (by decide +kernel) rfl) pa_nil)))) (pw_or1 (pt_val (pe_callB call_isi (by rfl) mi (by decide +kernel) (pa_cons (pv 1) (pa_cons (pe_bltn (v := .ty "tuple") (by rfl) mt (by decide +kernel) rfl) pa_nil)))))))
          (pss_cons (ps_if (pt_cmpR op_ne (pe_callB call_isi (by rfl) mi (by decide +kernel) (pa_cons (pv 0) (pa_cons (pe_bltn (v := .ty "list") (by rfl) ml (by decide +kernel) rfl) pa_nil))) (pe_callB call_isi (by rfl) mi (by decide +kernel) (pa_cons (pv 1) (pa_cons (pe_bltn (v := .ty "list") (by rfl) ml (by decide +kernel) rfl) pa_nil))) (nomark _)) (pss_one (ps_ret pe_bl)) pss_nil)
          (pss_cons (ps_if (PW.pt (pw_or (pt_cmpR op_ne (pe_callB call_isi (by rfl) mi (by decide +kernel) (pa_cons (pv 0) (pa_cons (pe_bltn (v := .ty "tuple") (by rfl) mt (by decide +kernel) rfl) pa_nil))) (pe_callB call_isi (by rfl) mi (by decide +kernel) (pa_cons (pv 1) (pa_cons (pe_bltn (v := .ty "tuple") (by rfl) mt (by decide +kernel) rfl) pa_nil))) (nomark _)) (pw_or1 (pt_cmpR op_ne (pe_callB call_len_seq (by rfl) me PySem.boot_len (pa_cons (pv 0) pa_nil)) (pe_callB call_len_seq (by rfl) me PySem.boot_len (pa_cons (pv 1) pa_nil)) (nomark _))))) (pss_one (ps_ret pe_bl)) pss_nil)
          (pss_one (ps_ret (pe_callB (cr_all rfl) (by rfl) ma (by decide +kernel) (pa_cons (pe_lc (own := [("_law_one", 2), ("_law_other", 3)]) (g := gTup K 2 (gCons (gName 2) (gCons (gName 3) gNil))) (tt := tYes) (te := tCall (spSame n) [] E0 (tCons (tVar 2) (tCons (tVar 3) tNil))) rfl scSame.nd (RZ.pi_zipA (by rfl) mz (pa_cons (pv 0) (pa_cons (pv 1) pa_nil)))
            (blkOk_by (own := [("_law_one", 2), ("_law_other", 3)]) (N := ["_law_found", "_law_due", "_law_one", "_law_other"]) (sc := defScope sSame) (by decide +kernel)) (fun _ _ _ _ _ => pg_tup rfl (pgs_cons (pg_name (i := 2) scSame.nd rfl (.inl rfl)) (pgs_cons (pg_name (i := 3) scSame.nd rfl (.inl rfl)) pgs_nil))) (fun _ _ _ _ _ => pts_nil)
            (fun _ _ _ _ _ => pe_own C hr (by rfl) (pa_cons (pv 2) (pa_cons (pv 3) pa_nil)))) pa_nil)))))) pss_nil) pss_never), ?_⟩
      cases h1 with | tup ea la da => ?_
      cases h2 with | tup eb lb db => ?_
      rename_i a xs b ys
      have deq : ∀ x : V, (decide (x = x)) = true := fun x => decide_eq_true rfl
      have hbl := noBls_all (by simpa only [NoBl] using hb)
      refine ⟨_, rfl, rfl, false, congrArg V.bl (decide_eq_false (fun z => nomatch z)), iteF ?_⟩
      refine ⟨_, rfl, _, _, .type "tuple", .type "list", false, rfl, .ty _, .base (.tup eb), kit_ty (by decide +kernel), _, rfl, iteF ?_⟩
      refine ⟨_, rfl, _, _, .type "tuple", .type "tuple", true, rfl, .ty _, .base (.tup eb), kit_ty (by decide +kernel), _, rfl, iteT ?_⟩
      refine ⟨_, rfl, _, _, .type "tuple", .type "list", false, rfl, .ty _, .base (.tup ea), kit_ty (by decide +kernel), _, rfl, _, _, .type "tuple", .type "list", false, rfl, .ty _, .base (.tup eb), kit_ty (by decide +kernel), rfl, false, congrArg V.bl (by rw [deq]; rfl), iteF ?_⟩
      refine ⟨_, rfl, _, _, .type "tuple", .type "tuple", true, rfl, .ty _, .base (.tup ea), kit_ty (by decide +kernel), _, rfl, _, _, .type "tuple", .type "tuple", true, rfl, .ty _, .base (.tup eb), kit_ty (by decide +kernel), rfl, false, congrArg V.bl (by rw [deq]; rfl), iteF ?_⟩
      refine ⟨_, rfl, a, xs, rfl, Sq.tup ea, _, rfl, b, ys, rfl, Sq.tup eb, rfl, false, congrArg V.bl (by rw [decide_eq_true (congrArg (fun n : Nat => V.int (n : Int)) (la.trans lb.symm))]; rfl), iteF ?_⟩
      refine ⟨_, rfl, _, rfl, a, b, xs, ys, rfl, .inr ⟨.inl (.inl ea), .inl (.inl eb), fun D nD => lc_it (walk_zipTs (K := K) (a := a) (b := b) (xs := xs) (ys := ys) (n := ds.length) la lb) (fun j H' => Same H H' ∧ H' D = some (.lst ((List.replicate j true).map V.bl))) ⟨same_upd nD, upd_same⟩
        (fun j H' _ hP => ⟨.inl (.inl (hP.1 _ _ ea)), .inl (.inl (hP.1 _ _ eb))⟩) (fun j x H' H'' hj hP hy => ?_) (fun H3 hP => ?_)⟩⟩
      · obtain ⟨sm', eD⟩ := hP
        obtain ⟨T, x1, x2, rfl, nT, rfl, f1, f2⟩ := hy
        have st := same_upd (o := .tup [x1, x2]) nT
        have hdj : ds[j]? = some ds[j] := List.getElem?_eq_getElem hj
        have S := sm'.trans st
        refine ⟨T, _, rfl, .inl (.inl upd_same), rfl, _, _, rfl, _, _, rfl, rfl, rfl, ?_⟩
        refine ⟨_, rfl, _, rfl, x1, x2, ds[j], rfl, (da j x1 _ f1 hdj).same S, (db j x2 _ f2 hdj).same S, hall _ (List.getElem_mem hj), hbl _ (List.getElem_mem hj), fun H4 s4 => ?_⟩
        refine ⟨_, s4 _ _ (st _ _ eD), small1000 (by rw [List.length_map, List.length_replicate]; omega), fun c o e => ?_, ?_⟩
        · rw [upd_ne (ne_of_none e nD)]
          exact s4 _ _ (st _ _ (sm' c o e))
        · rw [upd_same, List.replicate_succ', List.map_append]
          rfl
      · obtain ⟨sm', eD⟩ := hP
        refine ⟨D, List.replicate ds.length true, rfl, SqL.of eD, ?_⟩
        rw [all_true]
        exact q _ sm'
end

/-! ### standing -/
theorem psF_names {st : StF} {x : Str} {W : Whr} : ∀ e ∈ psF st x W, e.1 = x ∨ e.1 ∈ st.map (·.1) := fun e he => by
  unfold psF at he
  split at he
  · obtain ⟨y, hy, rfl⟩ := List.mem_map.mp he
    right
    refine List.mem_map.mpr ⟨y, hy, ?_⟩
    split <;> rfl
  · rcases List.mem_append.mp he with z | z
    · exact .inr (List.mem_map.mpr ⟨e, z, rfl⟩)
    · rw [List.mem_singleton.mp z]; exact .inl rfl
theorem pgF_names {p : Page} {st : StF} : ∀ e ∈ (pgF p st).1, e.1 = p.deed.nam ∨ e.1 ∈ st.map (·.1) := fun e he => by
  unfold pgF at he
  split at he
  · exact psF_names e he
  · exact .inr (List.mem_map.mpr ⟨e, he, rfl⟩)
theorem goF_names : ∀ {ps : List Page} {st : StF}, ∀ e ∈ (goF st ps).1, e.1 ∈ st.map (·.1) ∨ ∃ p ∈ ps, e.1 = p.deed.nam
  | [], st, e, he => .inl (List.mem_map.mpr ⟨e, he, rfl⟩)
  | p :: r, st, e, he => by
    have he : e ∈ (goF (pgF p st).1 r).1 := he
    rcases goF_names e he with z | ⟨q, h1, h2⟩
    · obtain ⟨y, hy, ey⟩ := List.mem_map.mp z
      rcases pgF_names y hy with w | w
      · exact .inr ⟨p, List.mem_cons_self .., by rw [← ey, w]⟩
      · left; rw [← ey]; exact w
    · exact .inr ⟨q, List.mem_cons_of_mem _ h1, h2⟩
theorem goF_few {ps : List Page} {NM : List Str} (nd : ((goF [] ps).1.map (·.1)).Nodup) (h : ∀ p ∈ ps, p.deed.nam ∈ NM) : (goF [] ps).1.length ≤ NM.length := by
  have := sub_len nd (ys := NM) fun x hx => by
    obtain ⟨e, he, rfl⟩ := List.mem_map.mp hx
    rcases goF_names e he with z | ⟨p, h1, h2⟩
    · cases z
    · rw [h2]; exact h p h1
  rwa [List.length_map] at this
def shortD (s : StepT) : PyData := .tuple [.int s.num, .list (s.short.map pairD)]
def idleD (s : StepT) : PyData := .tuple [.int s.num, .str s.word]
def isShort (s : StepT) : Bool := !s.short.isEmpty
def isIdle (s : StepT) : Bool := decide (¬ s.word = "done")
theorem Thg.step {cs : List Addr} {H : Hp} {v : V} {s : StepT} (h : Thg cs H v (stepD s)) : ∃ T l x us, v = .ref T ∧ H T = some (.tup [.int s.num, .str s.nam, .str s.word, .ref l, x]) ∧ H l = some (.lst us) ∧ us.length = s.short.length ∧ Thg cs H (.ref l) (.list (s.short.map pairD)) := by
  obtain ⟨T, xs, rfl, eT, h1⟩ := h.tuple
  obtain ⟨x1, w1, rfl, g1, h2⟩ := h1.inv
  obtain ⟨x2, w2, rfl, g2, h3⟩ := h2.inv
  obtain ⟨x3, w3, rfl, g3, h4⟩ := h3.inv
  obtain ⟨x4, w4, rfl, g4, h5⟩ := h4.inv
  obtain ⟨x5, w5, rfl, g5, h6⟩ := h5.inv
  obtain ⟨l, us, rfl, el, _, hus⟩ := g4.list
  rw [h6.inv0, g1.inv_int, g2.inv_str, g3.inv_str] at eT
  have hl := hus.1
  rw [List.length_map] at hl
  exact ⟨T, l, x5, us, rfl, eT, el, hl, g4⟩
theorem canon_few {E : List Int} {p : Int → Prop} (h : ChP E p) : (canon p).length ≤ E.length := by
  by_cases c : ∃ rs, Told p rs
  · obtain ⟨rs, t⟩ := c
    rw [← t.canon]
    exact h.few t
  · unfold canon
    rw [dif_neg c]
    exact Nat.zero_le _
theorem whF_ch {E : List Int} {st : StF} {x : Str} (h : ∀ e ∈ st, ChW E e.2) : ChW E (whF st x) := by
  unfold whF
  cases c : st.find? fun e => decide (e.1 = x) with
  | none => exact fun n _ => rfl
  | some e => exact h e (List.mem_of_find?_eq_some c)
theorem pgF_ch {E : List Int} {SP : List Spt} {p : Page} {st : StF} (f : p.deed.Fit E SP p.num) (h : ∀ e ∈ st, ChW E e.2) : (∀ e ∈ (pgF p st).1, ChW E e.2) ∧ (pgF p st).2.short.length ≤ E.length := by
  have hW := whF_ch (x := p.deed.nam) h
  unfold pgF
  split
  · refine ⟨fun e he => ?_, ?_⟩
    · have he : e ∈ psF st p.deed.nam (doF p.num p.deed (whF st p.deed.nam)).1 := he
      unfold psF at he
      split at he
      · obtain ⟨y, hy, rfl⟩ := List.mem_map.mp he
        split
        · exact doF_ch f hW
        · exact h y hy
      · rcases List.mem_append.mp he with z | z
        · exact h e z
        · rw [List.mem_singleton.mp z]
          exact doF_ch f hW
    · show (doF p.num p.deed (whF st p.deed.nam)).2.1.length ≤ _
      revert hW f
      generalize whF st p.deed.nam = W
      generalize p.num = num
      generalize p.deed = d
      intro f hW
      cases d with
      | pack n m x => exact Nat.zero_le _
      | lade o t n a b => exact canon_few ((askS_ch f.2.1 f.2.2.1).and ((hW.set _).and (askS_ch f.2.1 f.2.2.1)).not)
      | sell x n a b => exact canon_few ((askS_ch f.2.1 f.2.2.1).and ((hW.set _).and (askS_ch f.2.1 f.2.2.1)).not)
      | back x n a b => exact canon_few ((askS_ch f.2.1 f.2.2.1).and ((hW.set _).and (askS_ch f.2.1 f.2.2.1)).not)
      | tell x n t => exact canon_few ((f.2.1.and (hW.set _).not).and (FndP.ch hW f.2.1).not)
  · exact ⟨h, Nat.zero_le _⟩
theorem goF_short {E : List Int} {SP : List Spt} : ∀ {ps : List Page} {st : StF}, (∀ p ∈ ps, p.deed.Fit E SP p.num) → (∀ e ∈ st, ChW E e.2) → ∀ s ∈ (goF st ps).2, s.short.length ≤ E.length
  | [], _, _, _, s, hs => nomatch hs
  | p :: r, st, f, h, s, hs => by
    obtain ⟨h1, h2⟩ := pgF_ch (f p (List.mem_cons_self ..)) h
    rcases List.mem_cons.mp (show s ∈ (pgF p st).2 :: (goF (pgF p st).1 r).2 from hs) with e | e
    · rw [e]; exact h2
    · exact goF_short (fun q hq => f q (List.mem_cons_of_mem _ hq)) h1 s e
theorem sm_rows3 {rows : List Row3} (h : rows.length ≤ 900) (hr : ∀ r ∈ rows, r.2.2.length ≤ 900) : Sm 4 (.list (rows.map row3D)) := by
  unfold Sm
  refine ⟨by rw [List.length_map]; exact h, fun d hd => ?_⟩
  obtain ⟨r, hr', rfl⟩ := List.mem_map.mp hd
  unfold row3D Sm
  refine ⟨by show 3 ≤ 900; decide, fun d hd => ?_⟩
  rcases List.mem_cons.mp hd with e | e
  · rw [e]; trivial
  rcases List.mem_cons.mp e with e | e
  · rw [e]; trivial
  rw [List.mem_singleton.mp e]
  exact sm_prs (hr r hr')
theorem nb_int {i : Int} : NoBl (.int i) := by unfold NoBl; trivial
theorem nb_str {x : Str} : NoBl (.str x) := by unfold NoBl; trivial
theorem nb_prs {ps : List (Int × Int)} : NoBl (.list (ps.map pairD)) := by
  rw [NoBl]
  refine noBls_of fun d hd => ?_
  obtain ⟨p, _, rfl⟩ := List.mem_map.mp hd
  unfold pairD
  rw [NoBl]
  refine noBls_of fun d hd => ?_
  rcases List.mem_cons.mp hd with e | e
  · rw [e]; first | exact nb_int | exact nb_str
  · rw [List.mem_singleton.mp e]; first | exact nb_int | exact nb_str
theorem nb_rows3 {rows : List Row3} : NoBl (.list (rows.map row3D)) := by
  rw [NoBl]
  refine noBls_of fun d hd => ?_
  obtain ⟨r, _, rfl⟩ := List.mem_map.mp hd
  unfold row3D
  rw [NoBl]
  refine noBls_of fun d hd => ?_
  rcases List.mem_cons.mp hd with e | e
  · rw [e]; first | exact nb_int | exact nb_str
  rcases List.mem_cons.mp e with e | e
  · rw [e]; first | exact nb_int | exact nb_str
  rw [List.mem_singleton.mp e]
  exact nb_prs
theorem nb_shorts {ss : List StepT} : NoBl (.list (ss.map shortD)) := by
  rw [NoBl]
  refine noBls_of fun d hd => ?_
  obtain ⟨r, _, rfl⟩ := List.mem_map.mp hd
  unfold shortD
  rw [NoBl]
  refine noBls_of fun d hd => ?_
  rcases List.mem_cons.mp hd with e | e
  · rw [e]; first | exact nb_int | exact nb_str
  rw [List.mem_singleton.mp e]
  exact nb_prs
theorem nb_idle {ss : List StepT} : NoBl (.list (ss.map idleD)) := by
  rw [NoBl]
  refine noBls_of fun d hd => ?_
  obtain ⟨r, _, rfl⟩ := List.mem_map.mp hd
  unfold idleD
  rw [NoBl]
  refine noBls_of fun d hd => ?_
  rcases List.mem_cons.mp hd with e | e
  · rw [e]; first | exact nb_int | exact nb_str
  rw [List.mem_singleton.mp e]
  exact nb_str
theorem sm_shorts {ss : List StepT} (h : ss.length ≤ 900) (hr : ∀ s ∈ ss, s.short.length ≤ 900) : Sm 4 (.list (ss.map shortD)) := by
  unfold Sm
  refine ⟨by rw [List.length_map]; exact h, fun d hd => ?_⟩
  obtain ⟨r, hr', rfl⟩ := List.mem_map.mp hd
  unfold shortD Sm
  refine ⟨by show 2 ≤ 900; decide, fun d hd => ?_⟩
  rcases List.mem_cons.mp hd with e | e
  · rw [e]; trivial
  rw [List.mem_singleton.mp e]
  exact sm_prs (hr r hr')
theorem sm_idle {ss : List StepT} (h : ss.length ≤ 900) : Sm 4 (.list (ss.map idleD)) := by
  unfold Sm
  refine ⟨by rw [List.length_map]; exact h, fun d hd => ?_⟩
  obtain ⟨r, hr', rfl⟩ := List.mem_map.mp hd
  unfold idleD Sm
  refine ⟨by show 2 ≤ 900; decide, fun d hd => ?_⟩
  rcases List.mem_cons.mp hd with e | e
  · rw [e]; trivial
  rw [List.mem_singleton.mp e]
  trivial
mutual
/-- its lists hold tuples only -/
def TupL : PyData → Prop
  | .list ds => TupLs ds
  | .tuple ds => TupTs ds
  | _ => True
def TupLs : List PyData → Prop
  | [] => True
  | d :: r => (∃ es, d = .tuple es) ∧ TupL d ∧ TupLs r
def TupTs : List PyData → Prop
  | [] => True
  | d :: r => TupL d ∧ TupTs r
end
theorem tupLs_of : ∀ {ds : List PyData}, (∀ d ∈ ds, (∃ es, d = .tuple es) ∧ TupL d) → TupLs ds
  | [], _ => by unfold TupLs; trivial
  | d :: r, h => by
    obtain ⟨h1, h2⟩ := h d (List.mem_cons_self ..)
    unfold TupLs
    exact ⟨h1, h2, tupLs_of fun x hx => h x (List.mem_cons_of_mem _ hx)⟩
theorem tupTs_of : ∀ {ds : List PyData}, (∀ d ∈ ds, TupL d) → TupTs ds
  | [], _ => by unfold TupTs; trivial
  | d :: r, h => by
    unfold TupTs
    exact ⟨h d (List.mem_cons_self ..), tupTs_of fun x hx => h x (List.mem_cons_of_mem _ hx)⟩
theorem tupLs_at : ∀ {ds : List PyData}, TupLs ds → ∀ d ∈ ds, (∃ es, d = .tuple es) ∧ TupL d
  | [], _, _, h => nomatch h
  | e :: r, h, d, hd => by
    unfold TupLs at h
    rcases List.mem_cons.mp hd with z | z
    · rw [z]; exact ⟨h.1, h.2.1⟩
    · exact tupLs_at h.2.2 d z
theorem tupTs_at : ∀ {ds : List PyData}, TupTs ds → ∀ d ∈ ds, TupL d
  | [], _, _, h => nomatch h
  | e :: r, h, d, hd => by
    unfold TupTs at h
    rcases List.mem_cons.mp hd with z | z
    · rw [z]; exact h.1
    · exact tupTs_at h.2 d z
/-- a list of numbers is none of its lists -/
theorem Thg.off {H : Hp} {v : V} {d : PyData} {c : Addr} {ks : List Int} (hc : H c = some (.lst (ks.map V.int))) (ne : ks ≠ []) (h : Thg [] H v d) : TupL d → Thg [c] H v d := by
  induction h with
  | non => intro _; exact .non
  | bl b => intro _; exact .bl b
  | int i => intro _; exact .int i
  | str x => intro _; exact .str x
  | @lst a0 xs0 ds e n l hx ih =>
    intro ht
    unfold TupL at ht
    have hd := tupLs_at ht
    refine .lst e (fun z => ?_) l fun i x d e1 e2 => ih i x d e1 e2 (hd d (List.mem_of_getElem? e2)).2
    rw [List.mem_singleton.mp z, hc] at e
    cases e
    cases ks with
    | nil => exact ne rfl
    | cons k r =>
      cases ds with
      | nil => cases l
      | cons d0 ds =>
        obtain ⟨⟨es, he⟩, _⟩ := hd d0 (List.mem_cons_self ..)
        have := hx 0 (.int k) d0 rfl rfl
        rw [he] at this
        cases this
  | tup e l hx ih =>
    intro ht
    unfold TupL at ht
    exact .tup e l fun i x d e1 e2 => ih i x d e1 e2 (tupTs_at ht d (List.mem_of_getElem? e2))
theorem tl_prs {ps : List (Int × Int)} : TupL (.list (ps.map pairD)) := by
  unfold TupL
  refine tupLs_of fun d hd => ?_
  obtain ⟨p, _, rfl⟩ := List.mem_map.mp hd
  refine ⟨⟨_, rfl⟩, ?_⟩
  unfold pairD TupL
  refine tupTs_of fun d hd => ?_
  rcases List.mem_cons.mp hd with e | e
  · rw [e]; unfold TupL; trivial
  · rw [List.mem_singleton.mp e]; unfold TupL; trivial
theorem tl_rows3 {rows : List Row3} : TupL (.list (rows.map row3D)) := by
  unfold TupL
  refine tupLs_of fun d hd => ?_
  obtain ⟨p, _, rfl⟩ := List.mem_map.mp hd
  refine ⟨⟨_, rfl⟩, ?_⟩
  unfold row3D TupL
  refine tupTs_of fun d hd => ?_
  rcases List.mem_cons.mp hd with e | e
  · rw [e]; unfold TupL; trivial
  rcases List.mem_cons.mp e with e | e
  · rw [e]; unfold TupL; trivial
  · rw [List.mem_singleton.mp e]; exact tl_prs
theorem tl_shorts {ss : List StepT} : TupL (.list (ss.map shortD)) := by
  unfold TupL
  refine tupLs_of fun d hd => ?_
  obtain ⟨p, _, rfl⟩ := List.mem_map.mp hd
  refine ⟨⟨_, rfl⟩, ?_⟩
  unfold shortD TupL
  refine tupTs_of fun d hd => ?_
  rcases List.mem_cons.mp hd with e | e
  · rw [e]; unfold TupL; trivial
  · rw [List.mem_singleton.mp e]; exact tl_prs
theorem tl_idle {ss : List StepT} : TupL (.list (ss.map idleD)) := by
  unfold TupL
  refine tupLs_of fun d hd => ?_
  obtain ⟨p, _, rfl⟩ := List.mem_map.mp hd
  refine ⟨⟨_, rfl⟩, ?_⟩
  unfold idleD TupL
  refine tupTs_of fun d hd => ?_
  rcases List.mem_cons.mp hd with e | e
  · rw [e]; unfold TupL; trivial
  · rw [List.mem_singleton.mp e]; unfold TupL; trivial
/-- four rows, small ones, no truth among them -/
structure Sm4 (a b c d : PyData) : Prop where
  s1 : Sm 4 a
  s2 : Sm 4 b
  s3 : Sm 4 c
  s4 : Sm 4 d
  n1 : NoBl a
  n2 : NoBl b
  n3 : NoBl c
  n4 : NoBl d
  t1 : TupL a
  t2 : TupL b
  t3 : TupL c
  t4 : TupL d
/-- how all stands, told: what lies, what ended, shorts, idle -/
structure Stand (out : List Page) (a b c d : PyData) : Prop where
  ly : ∃ la, LyR (goF [] out).1 la ∧ a = .list (la.map row3D)
  en : ∃ ea, EnR (goF [] out).1 ea ∧ b = .list (ea.map row3D)
  sh : c = .list (((goF [] out).2.filter isShort).map shortD)
  id : d = .list (((goF [] out).2.filter isIdle).map idleD)
def spStanding (K : PySem.W.Frag) (Ms : GX.Mq) (Xs : List Addr) (Pi : Addr) : Sp := fun vs H Q _ => ∃ (a : Addr) (us : List V) (day : Int) (ps : List Page) (E : List Int) (SP : List Spt) (NM : List Str), vs = [.ref a, .int day] ∧ SqH H a us ∧ PgL H us ps ∧ GX.TQ Ms Xs H ∧ LamO Ms Pi ∧ E.length ≤ 300 ∧ SP.length ≤ 1000 ∧ (∀ p ∈ ps, p.deed.Fit E SP p.num) ∧ ps.length ≤ 900 ∧ NM.length < 64 ∧ NM.length * SP.length ≤ 900 ∧ (∀ p ∈ ps, p.deed.nam ∈ NM) ∧
  ∀ T out d1 d2 d3 d4 H', H T = none → InO (ps.filter fun p => decide (p.day ≤ day)) out → Stand out d1 d2 d3 d4 → Sm4 d1 d2 d3 d4 → Thg [] H' (.ref T) (.tuple [d1, d2, d3, d4]) → GX.NoTab H H' → GX.TQ Ms Xs H' → Q (.ref T) H'
abbrev sStanding : Stmt := topS 29
theorem scStanding : FnScope ["heap", "day", "stores", "steps", "shorts", "idle", "number", "name", "word", "short", "puts"] ["heap", "day"] (defScope sStanding) := ⟨rfl, rfl, rfl, by decide +kernel, rfl, by decide +kernel, by decide +kernel⟩
section
variable {K : PySem.W.Frag} {mg : Str → Option Value} {P : Program} {w : World} {base : Heap} {Ms : GX.Mq} {Xs : List Addr} {Pi : Addr}
theorem ok_Standing {f : Addr} {fd : FuncData} (F : Fun K "standing" "standing" sStanding f fd) (C_gone_through : Cal P w K mg base 7 "gone_through" ["heap", "day"] (spGone K Ms Xs Pi)) (C_lying_in : Cal P w K mg base 1 "lying_in" ["stores"] (spLying K)) (C_ends_in : Cal P w K mg base 3 "ends_in" ["stores"] (spEnds K)) (c_DONE : ∃ u, mg "DONE" = some u ∧ RelV (.str "done") u) : FnOk P w K mg base CX0 8 f fd ["heap", "day"] (spStanding K Ms Xs Pi) := by
  refine F.ok scStanding (fun vs H Q E h => ?_) (fun cdv A outer s H vs Q E hr h => ?_)
  · obtain ⟨a, us, day, ps, E, SP, NM, rfl, _⟩ := h
    rfl
  · obtain ⟨a, us, day, ps, E, SP, NM, rfl, ha, hu, hT, hL, hE, hSP, hfit, hpl, hNM, hNS, hnm, q⟩ := h
    refine ⟨_, pss_cons (ps_asg (pe_own C_gone_through hr (by rfl) (pa_cons (pv 0) (pa_cons (pv 1) pa_nil))) (pg_tup rfl (pgs_cons (pg_name (i := 2) scStanding.nd rfl (.inl rfl)) (pgs_cons (pg_name (i := 3) scStanding.nd rfl (.inl rfl)) pgs_nil))))
      (pss_cons (ps_setLc (i := 4) (own := [("number", 6), ("name", 7), ("word", 8), ("short", 9), ("puts", 10)]) (g := (gTup K 5 (gCons (gName 6) (gCons (gName 7) (gCons (gName 8) (gCons (gName 9) (gCons (gName 10) gNil))))))) (tt := (tTru K (tVar 9))) (te := (tTup (tCons (tVar 6) (tCons (tVar 9) tNil)))) rfl scStanding.nd rfl rfl (sw_true rfl rfl rfl (by decide +kernel)) (pi_list (pv 3)) (blkOk_by (own := [("number", 6), ("name", 7), ("word", 8), ("short", 9), ("puts", 10)]) (N := ["heap", "day", "stores", "steps", "shorts", "idle", "number", "name", "word", "short", "puts"]) (sc := defScope sStanding) (by decide +kernel)) (fun _ _ _ _ _ => (pg_tup rfl (pgs_cons (pg_name (i := 6) scStanding.nd rfl (.inl rfl)) (pgs_cons (pg_name (i := 7) scStanding.nd rfl (.inl rfl)) (pgs_cons (pg_name (i := 8) scStanding.nd rfl (.inl rfl)) (pgs_cons (pg_name (i := 9) scStanding.nd rfl (.inl rfl)) (pgs_cons (pg_name (i := 10) scStanding.nd rfl (.inl rfl)) pgs_nil))))))) (fun _ _ _ _ _ => (pts_one (pt_truth (pv 9) (by intro _; rfl)))) (fun _ _ _ _ _ => (pe_tup (pa_cons (pv 6) (pa_cons (pv 9) pa_nil)))))
      (pss_cons (ps_setLc (i := 5) (own := [("number", 6), ("name", 7), ("word", 8), ("short", 9), ("puts", 10)]) (g := (gTup K 5 (gCons (gName 6) (gCons (gName 7) (gCons (gName 8) (gCons (gName 9) (gCons (gName 10) gNil))))))) (tt := (tTest (tOp (rNe) (tVar 8) (tC (.str "done"))))) (te := (tTup (tCons (tVar 6) (tCons (tVar 8) tNil)))) rfl scStanding.nd rfl rfl (sw_true rfl rfl rfl (by decide +kernel)) (pi_list (pv 3)) (blkOk_by (own := [("number", 6), ("name", 7), ("word", 8), ("short", 9), ("puts", 10)]) (N := ["heap", "day", "stores", "steps", "shorts", "idle", "number", "name", "word", "short", "puts"]) (sc := defScope sStanding) (by decide +kernel)) (fun _ _ _ _ _ => (pg_tup rfl (pgs_cons (pg_name (i := 6) scStanding.nd rfl (.inl rfl)) (pgs_cons (pg_name (i := 7) scStanding.nd rfl (.inl rfl)) (pgs_cons (pg_name (i := 8) scStanding.nd rfl (.inl rfl)) (pgs_cons (pg_name (i := 9) scStanding.nd rfl (.inl rfl)) (pgs_cons (pg_name (i := 10) scStanding.nd rfl (.inl rfl)) pgs_nil))))))) (fun _ _ _ _ _ => (pts_one (pt_cmpR op_ne (pv 8) (C8.pe_gc (by rfl) c_DONE) (nomark _)))) (fun _ _ _ _ _ => (pe_tup (pa_cons (pv 6) (pa_cons (pv 8) pa_nil)))))
      (pss_one (ps_ret (pe_tup (pa_cons (pe_own C_lying_in (hr.mono (show 1 ≤ 7 by decide)) (by rfl) (pa_cons (pv 2) pa_nil)) (pa_cons (pe_own C_ends_in (hr.mono (show 3 ≤ 7 by decide)) (by rfl) (pa_cons (pv 2) pa_nil)) (pa_cons (pv 4) (pa_cons (pv 5) pa_nil))))))))), ?_⟩
    refine ⟨_, rfl, _, rfl, a, us, day, ps, E, SP, rfl, ha, hu, hT, hL, hE, hSP, hfit, hpl, fun T0 S L kvs ws as out H1 nT0 eT0 eS eL hO hSt hLsA n1 t1 => have hLs := hLsA [] (fun _ z => nomatch z); ?_⟩
    have hfew := goF_few hSt.nd (NM := NM) fun p hp => hnm p (List.mem_filter.mp (hO.perm.mem_iff.mp hp)).1
    obtain ⟨L', us', eLL, eL', _, hLs⟩ := hLs.list
    cases eLL
    rw [eL] at eL'
    cases eL'
    have hol : (goF [] out).2.length = ws.length := by
      have := hLs.1
      rw [List.length_map] at this
      exact this.symm
    have hwl : ws.length ≤ 900 := by
      have h1 : ∀ (ps : List Page) (st : StF), (goF st ps).2.length = ps.length := fun ps => by
        induction ps with
        | nil => intro _; rfl
        | cons p r ih => intro st; show (goF _ r).2.length + 1 = _; rw [ih]; rfl
      rw [← hol, h1, hO.perm.length_eq]
      exact Nat.le_trans (List.length_filter_le _ _) hpl
    have hσ1 : ∀ x y : Option V, ((L2.start ["heap", "day", "stores", "steps", "shorts", "idle", "number", "name", "word", "short", "puts"] [V.ref a, V.int day]).set 2 x).set 3 y = [some (.ref a), some (.int day), x, y, none, none, none, none, none, none, none] := fun _ _ => rfl
    refine ⟨T0, _, rfl, .inl (.inl eT0), rfl, _, _, rfl, _, _, rfl, rfl, ?_⟩
    refine ⟨_, rfl, L, rfl, ⟨_, SqL.of eL⟩, fun D nD => lc_it walk_list (fun j H2 => Same H1 H2 ∧ ∃ zs, H2 D = some (.lst zs) ∧ ThgL [D] H2 zs ((((goF [] out).2.take j).filter isShort).map shortD) ∧ zs.length ≤ j) ⟨same_upd nD, [], upd_same, ThgL.nil, Nat.le_refl _⟩ (fun j H2 _ hP => SqL.of (hP.1 _ _ eL)) (fun j x H2 H2' hj hP hy => ?_) (fun H2 hP => ?_)⟩
    · obtain ⟨sm, zs, eD, hz, hzl⟩ := hP
      obtain ⟨rfl, hx⟩ := hy
      obtain ⟨r, er, hr⟩ := hLs.atM hx
      have etk : (goF [] out).2.take (j + 1) = (goF [] out).2.take j ++ [r] := by rw [List.take_add_one, er]; rfl
      have hj' : j < ws.length := (List.getElem?_eq_some_iff.mp hx).1
      obtain ⟨T, l, x5, us2, rfl, eT, el, hul, g4⟩ := ((hr.more nD).same sm).step
      refine ⟨T, _, rfl, .inl (.inl eT), rfl, _, _, rfl, _, _, rfl, _, _, rfl, _, _, rfl, _, _, rfl, rfl, ?_⟩
      refine ⟨by simp only [hσ1, wipe, List.map_cons, List.map_nil, List.set_cons_succ, List.set_cons_zero], ?_⟩
      simp only [hσ1, wipe, List.map_cons, List.map_nil, List.set_cons_succ, List.set_cons_zero]
      refine ⟨_, rfl, ?_⟩
      cases us2 with
      | nil =>
        have e0 : r.short = [] := List.eq_nil_of_length_eq_zero hul.symm
        refine ⟨false, .inl ⟨_, SqL.of el, rfl⟩, iteF ⟨sm, zs, eD, ?_, by omega⟩⟩
        rw [etk, List.filter_append, List.filter_cons_of_neg (by unfold isShort; rw [e0]; decide), List.filter_nil, List.append_nil]
        exact hz
      | cons u0 us2 =>
        have e0 : isShort r = true := by
          unfold isShort
          cases hc : r.short with
          | nil => rw [hc] at hul; cases hul
          | cons _ _ => rfl
        refine ⟨true, .inl ⟨_, SqL.of el, rfl⟩, iteT ⟨_, rfl, _, rfl, (by show 2 ≤ sizeLine; decide), fun T3 nT3 => ?_⟩⟩
        have sT3 := same_upd (o := .tup [V.int r.num, .ref l]) nT3
        have eD3 := sT3 _ _ eD
        refine ⟨zs, eD3, by rw [sizeLine_eq]; omega, fun b o eb => ?_, zs ++ [.ref T3], upd_same, ?_, by rw [List.length_append]; show zs.length + 1 ≤ j + 1; omega⟩
        · rw [upd_ne (ne_of_none eb nD)]
          exact sT3 _ _ (sm _ _ eb)
        · rw [etk, List.filter_append, List.filter_cons_of_pos e0, List.filter_nil, List.map_append]
          exact ((hz.same sT3).upd eD3 (List.mem_cons_self ..)).append (ThgL.one (Thg.upd (ThgL.tup (.cons (.int _) (.one (g4.same sT3))) upd_same) eD3 (List.mem_cons_self ..)))
    obtain ⟨sm, zs, eD, hz, hzl⟩ := hP
    rw [show ws.length = (goF [] out).2.length from hol.symm, List.take_length] at hz
    have hz1 : ThgL [] H2 zs _ := hz.less (fun _ z => nomatch z)
    clear hz
    have eL2 := sm _ _ eL
    have hLs2 := hLs.same sm
    refine ⟨_, rfl, L, rfl, ⟨_, SqL.of eL2⟩, fun D' nD' => lc_it walk_list (fun j H3 => Same H2 H3 ∧ ∃ zs, H3 D' = some (.lst zs) ∧ ThgL [D'] H3 zs ((((goF [] out).2.take j).filter isIdle).map idleD) ∧ zs.length ≤ j) ⟨same_upd nD', [], upd_same, ThgL.nil, Nat.le_refl _⟩ (fun j H3 _ hP => SqL.of (hP.1 _ _ eL2)) (fun j x H3 H3' hj hP hy => ?_) (fun H3 hP => ?_)⟩
    · obtain ⟨sm2, zs, eD, hz, hzl⟩ := hP
      obtain ⟨rfl, hx⟩ := hy
      obtain ⟨r, er, hr⟩ := hLs2.atM hx
      have etk : (goF [] out).2.take (j + 1) = (goF [] out).2.take j ++ [r] := by rw [List.take_add_one, er]; rfl
      have hj' : j < ws.length := (List.getElem?_eq_some_iff.mp hx).1
      obtain ⟨T, l, x5, us2, rfl, eT, el, hul, g4⟩ := ((hr.more nD').same sm2).step
      refine ⟨T, _, rfl, .inl (.inl eT), rfl, _, _, rfl, _, _, rfl, _, _, rfl, _, _, rfl, _, _, rfl, rfl, ?_⟩
      refine ⟨by simp only [hσ1, wipe, List.map_cons, List.map_nil, List.set_cons_succ, List.set_cons_zero], ?_⟩
      simp only [hσ1, wipe, List.map_cons, List.map_nil, List.set_cons_succ, List.set_cons_zero]
      refine ⟨_, rfl, rfl, _, rfl, ite2 (fun c => ?_) (fun c => ?_)⟩
      · have e0 : isIdle r = true := decide_eq_true fun z => by rw [z] at c; exact absurd c (by decide +kernel)
        refine ⟨_, rfl, _, rfl, (by show 2 ≤ sizeLine; decide), fun T3 nT3 => ?_⟩
        have sT3 := same_upd (o := .tup [V.int r.num, .str r.word]) nT3
        have eD3 := sT3 _ _ eD
        refine ⟨zs, eD3, by rw [sizeLine_eq]; omega, fun b o eb => ?_, zs ++ [.ref T3], upd_same, ?_, by rw [List.length_append]; show zs.length + 1 ≤ j + 1; omega⟩
        · rw [upd_ne (ne_of_none eb nD')]
          exact sT3 _ _ (sm2 _ _ eb)
        · rw [etk, List.filter_append, List.filter_cons_of_pos e0, List.filter_nil, List.map_append]
          exact ((hz.same sT3).upd eD3 (List.mem_cons_self ..)).append (ThgL.one (Thg.upd (ThgL.tup (.cons (.int _) (.one (.str _))) upd_same) eD3 (List.mem_cons_self ..)))
      · have e0 : ¬ isIdle r = true := fun z => c (by
          have := of_decide_eq_true z
          first
            | exact decide_eq_true fun y => this (V.str.inj y)
            | simpa using fun y => this (V.str.inj y))
        refine ⟨sm2, zs, eD, ?_, by omega⟩
        rw [etk, List.filter_append, List.filter_cons_of_neg e0, List.filter_nil, List.append_nil]
        exact hz
    obtain ⟨sm2, zi, eDi, hzi, _⟩ := hP
    rw [show ws.length = (goF [] out).2.length from hol.symm, List.take_length] at hzi
    have hzi1 : ThgL [] H3 zi _ := hzi.less (fun _ z => nomatch z)
    clear hzi
    have s13 := sm.trans sm2
    have h64 : (goF [] out).1.length < 64 := by omega
    refine ⟨_, rfl, S, kvs, (goF [] out).1, as, [L], E, SP, rfl, s13 _ _ eS, hSt.same s13, hE, hSP, by omega, ?_, fun la zla ola H4 nla ela hla hLA hln s4 => ?_⟩
    · calc (goF [] out).1.length * SP.length ≤ 64 * 1000 := Nat.mul_le_mul (by omega) hSP
        _ ≤ 1000000 := by decide
    have s14 := s13.trans s4
    refine ⟨_, rfl, S, kvs, (goF [] out).1, as, [L], E, SP, rfl, s14 _ _ eS, hSt.same s14, h64, fun le zle ole H5 nle ele hle hEN hlm s5 => ?_⟩
    have s15 := s14.trans s5
    refine ⟨_, rfl, _, rfl, by show 4 ≤ sizeLine; decide, fun T nT => ?_⟩
    have sT := same_upd (o := .tup [V.ref la, .ref le, .ref D, .ref D']) nT
    have s1T := s15.trans sT
    refine q T out _ _ _ _ _ (n1.free (s15.free nT)) hO ⟨⟨ola, hLA, rfl⟩, ⟨ole, hEN, rfl⟩, rfl, rfl⟩ ?_ ?_ (n1.trans (NoTab.same s1T)) (t1.same s1T)
    · have hch : ∀ e ∈ (goF [] out).1, ChW E e.2 := fun e he => by
        obtain ⟨i, ei⟩ := List.getElem?_of_mem he
        have hi : i < as.length := by rw [hSt.len]; exact (List.getElem?_eq_some_iff.mp ei).1
        exact (hSt.sto i _ _ (List.getElem?_eq_getElem hi) ei).ch
      have hgo : (goF [] out).2.length ≤ 900 := by omega
      have hfl := fun f => Nat.le_trans (List.length_filter_le f (goF [] out).2) hgo
      have hl1 := hla.1
      have hl2 := hle.1
      rw [List.length_map] at hl1 hl2
      have hNS2 : (goF [] out).1.length * SP.length ≤ NM.length * SP.length := Nat.mul_le_mul_right _ hfew
      refine ⟨sm_rows3 (by omega) fun r hr => ?_, sm_rows3 (by omega) fun r hr => ?_, sm_shorts (hfl _) fun r hr => ?_, sm_idle (hfl _), nb_rows3, nb_rows3, nb_shorts, nb_idle, tl_rows3, tl_rows3, tl_shorts, tl_idle⟩
      · obtain ⟨e, he, _, ht, _⟩ := (hLA.mem r).mp hr
        have := ((hch e he).set (.ly r.1)).few ht
        omega
      · obtain ⟨e, he, _, _, ht, _⟩ := (hEN.mem r).mp hr
        have := (AtWd.ch (hch e he) r.2.1).few ht
        omega
      · have := goF_short (st := []) (fun p hp => hfit p (List.mem_filter.mp (hO.perm.mem_iff.mp hp)).1) (fun e he => nomatch he) r (List.mem_filter.mp hr).1
        omega
    refine ThgL.tup (.cons ?_ (.cons ?_ (.cons ?_ (.one ?_)))) upd_same
    · exact ((hla.less (cs' := []) (fun _ z => nomatch z)).lst ela (fun z => nomatch z)).same (s5.trans sT)
    · exact ((hle.less (cs' := []) (fun _ z => nomatch z)).lst ele (fun z => nomatch z)).same sT
    · exact (hz1.lst eD (fun z => nomatch z)).same (sm2.trans (s4.trans (s5.trans sT)))
    · exact (hzi1.lst eDi (fun z => nomatch z)).same (s4.trans (s5.trans sT))
end

/-! ### _law_numbers -/
def rgI (p : Int × Int) : List Int := (List.range (p.2 + 1 - p.1).toNat).map fun j : Nat => p.1 + (j : Int)
def spLNum : Sp := fun vs H Q _ => ∃ (a : Addr) (us : List V) (ps : List (Int × Int)), vs = [.ref a] ∧ SqH H a us ∧ Prs H us ps ∧ (ps.flatMap rgI).length ≤ 900 ∧ (∀ p ∈ ps, -1000 ≤ p.1 ∧ p.1 ≤ p.2 ∧ p.2 ≤ 1000) ∧
  ∀ l H', H l = none → H' l = some (.lst ((ps.flatMap rgI).map V.int)) → Same H H' → Q (.ref l) H'
abbrev sLNum : Stmt := topS 38
theorem scLNum : FnScope ["_law_some", "_law_found", "_law_first", "_law_last"] ["_law_some"] (defScope sLNum) := ⟨rfl, rfl, rfl, by decide +kernel, rfl, by decide +kernel, by decide +kernel⟩
section
variable {K : PySem.W.Frag} {mg : Str → Option Value} {P : Program} {w : World} {base : Heap}
theorem ok_LNum {f : Addr} {fd : FuncData} (F : Fun K "_law_numbers" "_law_numbers" sLNum f fd) (m_list : mg "list" = none) (m_range : mg "range" = none) : FnOk P w K mg base CX0 1 f fd ["_law_some"] spLNum := by
  refine F.ok scLNum (fun vs H Q E h => ?_) (fun cdv A outer s H vs Q E hr h => ?_)
  · obtain ⟨a, us, ps, rfl, _⟩ := h
    rfl
  · obtain ⟨a, us, ps, rfl, ea, hu, hl, hb, q⟩ := h
    refine ⟨_, pss_cons (ps_set (i := 1) scLNum.nd rfl (.inl rfl) (pe_lst pa_nil))
      (pss_cons (ps_for PassesOwn.never rfl (pi_seq (pv 0)) (pg_tup rfl (pgs_cons (pg_name (i := 2) scLNum.nd rfl (.inl rfl)) (pgs_cons (pg_name (i := 3) scLNum.nd rfl (.inl rfl)) pgs_nil)))
        (pss_one (ps_expr (pe_bm PySem.F.plainAttrs_list PySem.F.slot_list_extend PySem.F.type_list_extend mt_extend (pv 1) (pa_cons (pe_listRg rfl (by rfl) m_list (prg_2 (by rfl) m_range (pv 2) (pe_op op_add (pv 3) pe_int))) pa_nil)))))
      (pss_one (ps_ret (pv 1)))), ?_⟩
    refine ⟨Nat.zero_le _, fun L nL => ?_⟩
    have sL := same_upd (o := .lst []) nL
    have eL := upd_same (H := H) (a := L) (o := .lst [])
    have rg : ∀ p : Int × Int, rgV p.1 (p.2 + 1) = (rgI p).map V.int := fun p => by unfold rgV rgI; rw [List.map_map]; rfl
    refine ⟨_, rfl, a, rfl, for_seqS (K := K) (xs := us) (ea.elim (fun e => .inl (SqL.of e)) fun e => .inr (.inl (.inl e))) sL (fun i σ Hx => ∃ (y2 y3 : Option V), σ = [some (.ref a), some (.ref L), y2, y3] ∧ Hx L = some (.lst (((ps.take i).flatMap rgI).map V.int)) ∧ Same H Hx) ⟨_, _, rfl, eL, sL⟩ (fun i σ Hx hP => ?_) (fun i x σ Hx hx hP => ?_) (fun σ Hx hP => ?_)⟩
    · obtain ⟨y2, y3, rfl, eLx, sx⟩ := hP
      exact sx
    · obtain ⟨y2, y3, rfl, eLx, sx⟩ := hP
      obtain ⟨p, T, ep, rfl, eT⟩ := prs_at hu hx
      have etk : ps.take (i + 1) = ps.take i ++ [p] := by rw [List.take_add_one, ep]; rfl
      obtain ⟨b1, b2, b3⟩ := hb p (List.mem_of_getElem? ep)
      have hlen : ((ps.take (i + 1)).flatMap rgI).length ≤ 900 := by
        refine Nat.le_trans ?_ hl
        conv => rhs; rw [← List.take_append_drop (i + 1) ps, List.flatMap_append, List.length_append]
        exact Nat.le_add_right _ _
      rw [etk, List.flatMap_append, List.length_append] at hlen
      refine ⟨T, _, rfl, .inl (.inl (sx _ _ eT)), rfl, _, _, rfl, _, _, rfl, rfl, ?_⟩
      refine ⟨_, rfl, .inl ⟨rfl, _, SqL.of eLx⟩, _, rfl, _, rfl, p.2, 1, rfl, rfl, p.1, p.2 + 1, rfl, rfl, ⟨by omega, by omega, by omega, by omega, by omega⟩, fun g ng => ?_⟩
      have sg := same_upd (o := .lst (rgV p.1 (p.2 + 1))) ng
      have eg := upd_same (H := Hx) (a := g) (o := .lst (rgV p.1 (p.2 + 1)))
      refine ⟨L, g, _, _, rfl, rfl, sg _ _ eLx, eg, by rw [rg, List.length_map, List.length_map, sizeLine_eq]; rw [List.flatMap_cons, List.flatMap_nil, List.append_nil] at hlen; omega, ?_⟩
      refine ⟨_, _, rfl, ?_, fun b o e => ?_⟩
      · rw [upd_same, etk, List.flatMap_append, List.map_append, rg, List.flatMap_cons, List.flatMap_nil, List.append_nil]
      · rw [upd_ne (ne_of_none e nL)]
        exact sg _ _ (sx _ _ e)
    · obtain ⟨y2, y3, rfl, eLx, sx⟩ := hP
      rw [hu.1, List.take_length] at eLx
      exact ⟨_, rfl, q L Hx nL eLx sx⟩
end

/-! ### what the law's own walk does: the mathematics -/
abbrev Mov := Int × Str × Str
def lyB (W : Whr) (h : Str) (n : Int) : Bool := decide (W n = some (.ly h))
def lkB (W : Whr) (n : Int) : Bool := match W n with
  | some (.lk _) => true
  | _ => false
theorem lkB_iff {W : Whr} {n : Int} : lkB W n = true ↔ ∃ k, W n = some (.lk k) := by
  unfold lkB
  split
  · rename_i k e
    exact ⟨fun _ => ⟨k, e⟩, fun _ => rfl⟩
  · rename_i h
    exact ⟨(fun z => nomatch z), fun ⟨k, e⟩ => absurd e (h k)⟩
theorem rgI_mem {p : Int × Int} {n : Int} : n ∈ rgI p ↔ p.1 ≤ n ∧ n ≤ p.2 := by
  unfold rgI
  rw [List.mem_map]
  constructor
  · rintro ⟨j, hj, rfl⟩
    have := List.mem_range.mp hj
    omega
  · intro ⟨h1, h2⟩
    exact ⟨(n - p.1).toNat, List.mem_range.mpr (by omega), by omega⟩
theorem rgI_up (p : Int × Int) : (rgI p).Pairwise (· < ·) := by
  unfold rgI
  refine List.pairwise_map.mpr (List.pairwise_lt_range.imp fun {a b} h => ?_)
  omega
theorem rgIs_mem {ps : List (Int × Int)} {n : Int} : n ∈ ps.flatMap rgI ↔ InS ps n := by
  rw [List.mem_flatMap]
  exact ⟨fun ⟨p, h1, h2⟩ => ⟨p, h1, rgI_mem.mp h2⟩, fun ⟨p, h1, h2⟩ => ⟨p, h1, rgI_mem.mpr h2⟩⟩
theorem rgIs_up : ∀ {ps : List (Int × Int)} {lo : Int}, Ris lo ps → (ps.flatMap rgI).Pairwise (· < ·)
  | [], _, _ => List.Pairwise.nil
  | p :: r, lo, h => by
    rw [List.flatMap_cons]
    refine List.pairwise_append.mpr ⟨rgI_up p, rgIs_up h.2.2, fun a ha b hb => ?_⟩
    have h1 := rgI_mem.mp ha
    obtain ⟨q, hq, h2⟩ := rgIs_mem.mp hb
    have h3 := Ris.le h.2.2 q hq
    omega
theorem up_nodup {l : List Int} (h : l.Pairwise (· < ·)) : l.Nodup := h.imp fun {a b} z e => by omega
theorem up_one : ∀ {xs ys : List Int}, xs.Pairwise (· < ·) → ys.Pairwise (· < ·) → (∀ n, n ∈ xs ↔ n ∈ ys) → xs = ys
  | [], [], _, _, _ => rfl
  | [], y :: r, _, _, h => nomatch (h y).mpr (List.mem_cons_self ..)
  | x :: r, [], _, _, h => nomatch (h x).mp (List.mem_cons_self ..)
  | x :: r, y :: s, h1, h2, h => by
    obtain ⟨a1, b1⟩ := List.pairwise_cons.mp h1
    obtain ⟨a2, b2⟩ := List.pairwise_cons.mp h2
    have e : x = y := by
      rcases List.mem_cons.mp ((h x).mp (List.mem_cons_self ..)) with z | z
      · exact z
      · rcases List.mem_cons.mp ((h y).mpr (List.mem_cons_self ..)) with w | w
        · exact w.symm
        · have := a2 x z
          have := a1 y w
          omega
    subst e
    rw [up_one b1 b2 fun n => ?_]
    constructor
    · intro z
      rcases List.mem_cons.mp ((h n).mp (List.mem_cons_of_mem _ z)) with w | w
      · have := a1 n z
        omega
      · exact w
    · intro z
      rcases List.mem_cons.mp ((h n).mpr (List.mem_cons_of_mem _ z)) with w | w
      · have := a2 n z
        omega
      · exact w
/-- all cases that lie at a holder -/
def ownL (W : Whr) (h : Str) : List Int := (rgI (0, 99)).filter (lyB W h)
def Sup (W : Whr) : Prop := ∀ n s, W n = some s → 0 ≤ n ∧ n < 100
theorem ownL_mem {W : Whr} (hW : Sup W) {h : Str} {n : Int} : n ∈ ownL W h ↔ W n = some (.ly h) := by
  unfold ownL lyB
  rw [List.mem_filter, rgI_mem, decide_eq_true_iff]
  exact ⟨fun z => z.2, fun z => ⟨by have := hW n _ z; omega, z⟩⟩
theorem ownL_up (W : Whr) (h : Str) : (ownL W h).Pairwise (· < ·) := (rgI_up _).sublist List.filter_sublist
def lmv (d : Deed) (W : Whr) : List Mov × List Int := match d with
  | .pack _ m h => ((rgI (0, m - 1)).map fun n => (n, ("packed" : Str), h), [])
  | .lade o t _ a b => (((rgI (a, b)).filter (lyB W o)).map fun n => (n, ("laded" : Str), t), (rgI (a, b)).filter fun n => !lyB W o n)
  | .sell h _ a b => (((rgI (a, b)).filter (lyB W h)).map fun n => (n, ("sold" : Str), h), (rgI (a, b)).filter fun n => !lyB W h n)
  | .back h _ a b => (((rgI (a, b)).filter (lyB W h)).map fun n => (n, ("back" : Str), h), (rgI (a, b)).filter fun n => !lyB W h n)
  | .tell h _ ts => ((((ownL W h).filter fun n => !decide (n ∈ ts.flatMap rgI)).map fun n => (n, ("lacking" : Str), h)) ++ ((ts.flatMap rgI).filter (lkB W)).map fun n => (n, ("found" : Str), h), (ts.flatMap rgI).filter fun n => !lkB W n && !decide (n ∈ ownL W h))
def updF (F : Str → Whr) (x : Str) (n : Int) (sp : Spt) : Str → Whr := fun y m => if y = x ∧ m = n then some sp else F y m
def setF (F : Str → Whr) (x : Str) (W : Whr) : Str → Whr := fun y => if y = x then W else F y
/-- where a case lies that moved -/
def spotM (num : Int) (m : Mov) : Spt := if m.2.1 = "sold" then .sold else if m.2.1 = "back" then .back else if m.2.1 = "lacking" then .lk num else .ly m.2.2
def mvF (num : Int) (x : Str) (F : Str → Whr) (ms : List Mov) : Str → Whr := ms.foldl (fun F m => updF F x m.1 (spotM num m)) F
theorem mvF_snoc {num : Int} {x : Str} {F : Str → Whr} {ms : List Mov} {m : Mov} : mvF num x F (ms ++ [m]) = updF (mvF num x F ms) x m.1 (spotM num m) := by
  unfold mvF
  rw [List.foldl_append]
  rfl
theorem mvF_oth {num : Int} {x y : Str} (h : y ≠ x) : ∀ (ms : List Mov) (F : Str → Whr), mvF num x F ms y = F y
  | [], _ => rfl
  | m :: r, F => by
    show mvF num x (updF F x m.1 (spotM num m)) r y = _
    rw [mvF_oth h r]
    funext n
    unfold updF
    rw [if_neg fun z => h z.1]
theorem mvF_out {num : Int} {x : Str} {n : Int} : ∀ (ms : List Mov) (F : Str → Whr), (∀ m ∈ ms, m.1 ≠ n) → mvF num x F ms x n = F x n
  | [], _, _ => rfl
  | m :: r, F, h => by
    show mvF num x (updF F x m.1 (spotM num m)) r x n = _
    rw [mvF_out r _ fun m hm => h m (List.mem_cons_of_mem _ hm)]
    unfold updF
    rw [if_neg fun z => h m (List.mem_cons_self ..) z.2.symm]
theorem mvF_in {num : Int} {x : Str} : ∀ (ms : List Mov) (F : Str → Whr), (ms.map (·.1)).Nodup → ∀ m ∈ ms, mvF num x F ms x m.1 = some (spotM num m)
  | [], _, _, _, h => nomatch h
  | m :: r, F, nd, q, hq => by
    obtain ⟨n1, n2⟩ := List.nodup_cons.mp nd
    show mvF num x (updF F x m.1 (spotM num m)) r x q.1 = _
    rcases List.mem_cons.mp hq with e | e
    · rw [e, mvF_out r _ fun z hz y => n1 (List.mem_map.mpr ⟨z, hz, y⟩)]
      unfold updF
      rw [if_pos ⟨rfl, rfl⟩]
    · exact mvF_in r _ n2 q e
/-- numbers of a deed that are small -/
def DBd : Deed → Prop
  | .pack _ m _ => 1 ≤ m ∧ m ≤ 100
  | .lade _ _ _ a b => 0 ≤ a ∧ a ≤ b ∧ b ≤ 300
  | .sell _ _ a b => 0 ≤ a ∧ a ≤ b ∧ b ≤ 300
  | .back _ _ a b => 0 ≤ a ∧ a ≤ b ∧ b ≤ 300
  | .tell _ _ ts => (∃ lo, Ris lo ts) ∧ ∀ n, InS ts n → 0 ≤ n ∧ n ≤ 300
theorem map_fst {f : Int → Mov} (hf : ∀ n, (f n).1 = n) : ∀ l : List Int, (l.map f).map (·.1) = l
  | [] => rfl
  | n :: r => by rw [List.map_cons, List.map_cons, map_fst hf r, hf]
theorem lmv_nd {d : Deed} {W : Whr} (hb : DBd d) (hW : Sup W) : ((lmv d W).1.map (·.1)).Nodup := by
  have rg : ∀ (a b : Int) (h : Str) (w t : Str), ((((rgI (a, b)).filter (lyB W h)).map fun n => ((n, w, t) : Mov)).map (·.1)).Nodup := fun a b h w t => by
    rw [map_fst (f := fun n => (n, w, t)) (fun _ => rfl)]
    exact up_nodup ((rgI_up _).sublist List.filter_sublist)
  cases d with
  | pack x m h =>
    show (((rgI (0, m - 1)).map fun n => ((n, ("packed" : Str), h) : Mov)).map (·.1)).Nodup
    rw [map_fst (f := fun n => (n, ("packed" : Str), h)) (fun _ => rfl)]
    exact up_nodup (rgI_up _)
  | lade o t x a b => exact rg a b o "laded" t
  | sell h x a b => exact rg a b h "sold" h
  | back h x a b => exact rg a b h "back" h
  | tell h x ts =>
    obtain ⟨⟨lo, hr⟩, _⟩ := hb
    show (List.map (·.1) ((((ownL W h).filter fun n => !decide (n ∈ ts.flatMap rgI)).map fun n => ((n, ("lacking" : Str), h) : Mov)) ++ ((ts.flatMap rgI).filter (lkB W)).map fun n => ((n, ("found" : Str), h) : Mov))).Nodup
    rw [List.map_append, map_fst (f := fun n => (n, ("lacking" : Str), h)) (fun _ => rfl), map_fst (f := fun n => (n, ("found" : Str), h)) (fun _ => rfl)]
    refine List.nodup_append.mpr ⟨up_nodup ((ownL_up W h).sublist List.filter_sublist), up_nodup ((rgIs_up hr).sublist List.filter_sublist), fun a ha b hb e => ?_⟩
    rw [← e] at hb
    have h1 := (ownL_mem hW).mp (List.mem_filter.mp ha).1
    obtain ⟨k, h2⟩ := lkB_iff.mp (List.mem_filter.mp hb).2
    rw [h1] at h2
    cases h2
theorem words_ne : ("packed" : Str) ≠ "sold" ∧ ("packed" : Str) ≠ "back" ∧ ("packed" : Str) ≠ "lacking" ∧ ("laded" : Str) ≠ "sold" ∧ ("laded" : Str) ≠ "back" ∧ ("laded" : Str) ≠ "lacking" ∧ ("found" : Str) ≠ "sold" ∧ ("found" : Str) ≠ "back" ∧ ("found" : Str) ≠ "lacking" ∧ ("back" : Str) ≠ "sold" ∧ ("lacking" : Str) ≠ "sold" ∧ ("lacking" : Str) ≠ "back" := by decide +kernel
theorem spot_packed {num n : Int} {h : Str} : spotM num (n, "packed", h) = .ly h := by
  unfold spotM
  rw [if_neg words_ne.1, if_neg words_ne.2.1, if_neg words_ne.2.2.1]
theorem spot_laded {num n : Int} {h : Str} : spotM num (n, "laded", h) = .ly h := by
  unfold spotM
  rw [if_neg words_ne.2.2.2.1, if_neg words_ne.2.2.2.2.1, if_neg words_ne.2.2.2.2.2.1]
theorem spot_found {num n : Int} {h : Str} : spotM num (n, "found", h) = .ly h := by
  unfold spotM
  rw [if_neg words_ne.2.2.2.2.2.2.1, if_neg words_ne.2.2.2.2.2.2.2.1, if_neg words_ne.2.2.2.2.2.2.2.2.1]
theorem spot_sold {num n : Int} {h : Str} : spotM num (n, "sold", h) = .sold := by
  unfold spotM
  rw [if_pos rfl]
theorem spot_back {num n : Int} {h : Str} : spotM num (n, "back", h) = .back := by
  unfold spotM
  rw [if_neg words_ne.2.2.2.2.2.2.2.2.2.1, if_pos rfl]
theorem spot_lacking {num n : Int} {h : Str} : spotM num (n, "lacking", h) = .lk num := by
  unfold spotM
  rw [if_neg words_ne.2.2.2.2.2.2.2.2.2.2.1, if_neg words_ne.2.2.2.2.2.2.2.2.2.2.2, if_pos rfl]
/-- the moves make of where the cases lay just what the deed does -/
theorem mvF_did {num : Int} {d : Deed} {F : Str → Whr} (hb : DBd d) (hW : Sup (F d.nam)) : mvF num d.nam F (lmv d (F d.nam)).1 = setF F d.nam (doF num d (F d.nam)).1 := by
  have nd := lmv_nd hb hW
  funext y
  by_cases hy : y = d.nam
  · subst hy
    funext n
    unfold setF
    rw [if_pos rfl]
    revert nd hW
    generalize e : F d.nam = W
    intro hW nd
    have into : ∀ m ∈ (lmv d W).1, mvF num d.nam F (lmv d W).1 d.nam m.1 = some (spotM num m) := fun m hm => mvF_in _ F nd m hm
    have outo : (∀ m ∈ (lmv d W).1, m.1 ≠ n) → mvF num d.nam F (lmv d W).1 d.nam n = W n := fun h => by rw [mvF_out _ F h, e]
    have go : ∀ (d' : Deed) (a b : Int) (o w t : Str) (sp : Spt), d' = d → (lmv d' W).1 = (((rgI (a, b)).filter (lyB W o)).map fun n => ((n, w, t) : Mov)) → (∀ n, spotM num (n, w, t) = sp) → mvF num d.nam F (lmv d W).1 d.nam n = caW W o sp (AskS a b) n := fun d' a b o w t sp ed el es => by
      subst ed
      unfold caW AskS
      by_cases c : W n = some (.ly o) ∧ a ≤ n ∧ n ≤ b
      · rw [if_pos c, into (n, w, t) (by rw [el]; exact List.mem_map.mpr ⟨n, List.mem_filter.mpr ⟨rgI_mem.mpr c.2, decide_eq_true c.1⟩, rfl⟩), es]
      · rw [if_neg c]
        refine outo fun m hm z => c ?_
        rw [el] at hm
        obtain ⟨k, hk, rfl⟩ := List.mem_map.mp hm
        have z : k = n := z
        subst z
        obtain ⟨h1, h2⟩ := List.mem_filter.mp hk
        exact ⟨of_decide_eq_true h2, rgI_mem.mp h1⟩
    cases d with
    | pack x m h =>
      show _ = ptW W (.ly h) (AskS 0 (m - 1)) n
      unfold ptW AskS
      by_cases c : 0 ≤ n ∧ n ≤ m - 1
      · rw [if_pos c, into (n, "packed", h) (List.mem_map.mpr ⟨n, rgI_mem.mpr c, rfl⟩), spot_packed]
      · rw [if_neg c]
        refine outo fun q hq z => c ?_
        obtain ⟨k, hk, rfl⟩ := List.mem_map.mp hq
        have z : k = n := z
        subst z
        exact rgI_mem.mp hk
    | lade o t x a b => exact go _ a b o "laded" t (.ly t) rfl rfl fun _ => spot_laded
    | sell h x a b => exact go _ a b h "sold" h .sold rfl rfl fun _ => spot_sold
    | back h x a b => exact go _ a b h "back" h .back rfl rfl fun _ => spot_back
    | tell h x ts =>
      show _ = teW W h num (InS ts) n
      unfold teW FndP
      by_cases c : (∃ k, W n = some (.lk k)) ∧ InS ts n
      · rw [if_pos c, into (n, "found", h) (List.mem_append_right _ (List.mem_map.mpr ⟨n, List.mem_filter.mpr ⟨rgIs_mem.mpr c.2, lkB_iff.mpr c.1⟩, rfl⟩)), spot_found]
      · rw [if_neg c]
        by_cases c2 : W n = some (.ly h) ∧ ¬ InS ts n
        · rw [if_pos c2, into (n, "lacking", h) (List.mem_append_left _ (List.mem_map.mpr ⟨n, List.mem_filter.mpr ⟨(ownL_mem hW).mpr c2.1, by rw [decide_eq_false (fun z => c2.2 (rgIs_mem.mp z))]; rfl⟩, rfl⟩)), spot_lacking]
        · rw [if_neg c2]
          refine outo fun q hq z => ?_
          rcases List.mem_append.mp hq with hq | hq
          · obtain ⟨k, hk, rfl⟩ := List.mem_map.mp hq
            have z : k = n := z
            subst z
            obtain ⟨h1, h2⟩ := List.mem_filter.mp hk
            refine c2 ⟨(ownL_mem hW).mp h1, fun z => ?_⟩
            rw [decide_eq_true (rgIs_mem.mpr z)] at h2
            cases h2
          · obtain ⟨k, hk, rfl⟩ := List.mem_map.mp hq
            have z : k = n := z
            subst z
            obtain ⟨h1, h2⟩ := List.mem_filter.mp hk
            exact c ⟨lkB_iff.mp h2, rgIs_mem.mp h1⟩
  · rw [mvF_oth hy]
    unfold setF
    rw [if_neg hy]

theorem rgI_at {p : Int × Int} {i : Nat} {z : Int} (e : (rgI p)[i]? = some z) : z = p.1 + (i : Int) := by
  unfold rgI at e
  rw [List.getElem?_map] at e
  obtain ⟨j, ej, rfl⟩ := Option.map_eq_some_iff.mp e
  have := (List.getElem?_eq_some_iff.mp ej)
  obtain ⟨h1, h2⟩ := this
  rw [List.getElem_range] at h2
  rw [← h2]
theorem rgI_len (p : Int × Int) : (rgI p).length = (p.2 + 1 - p.1).toNat := by
  unfold rgI
  rw [List.length_map, List.length_range]
def six : List Str := ["packed", "laded", "found", "sold", "back", "lacking"]
def HoOk : Deed → Prop
  | .pack _ _ h => PyData.strOk h = true
  | .lade o t _ _ _ => PyData.strOk o = true ∧ PyData.strOk t = true
  | .sell h _ _ _ => PyData.strOk h = true
  | .back h _ _ _ => PyData.strOk h = true
  | .tell h _ _ => PyData.strOk h = true
theorem six_all : ("packed" : Str) ∈ six ∧ ("laded" : Str) ∈ six ∧ ("found" : Str) ∈ six ∧ ("sold" : Str) ∈ six ∧ ("back" : Str) ∈ six ∧ ("lacking" : Str) ∈ six := by unfold six; decide +kernel
theorem lmv_bd {d : Deed} {W : Whr} (hb : DBd d) (ho : HoOk d) (hW : Sup W) : ∀ m ∈ (lmv d W).1, (0 ≤ m.1 ∧ m.1 < 100) ∧ PyData.strOk m.2.2 = true ∧ m.2.1 ∈ six := by
  have go : ∀ (a b : Int) (o w t : Str), PyData.strOk t = true → w ∈ six → ∀ m ∈ ((rgI (a, b)).filter (lyB W o)).map fun n => ((n, w, t) : Mov), (0 ≤ m.1 ∧ m.1 < 100) ∧ PyData.strOk m.2.2 = true ∧ m.2.1 ∈ six := fun a b o w t ht hw m hm => by
    obtain ⟨n, hn, rfl⟩ := List.mem_map.mp hm
    exact ⟨hW n _ (of_decide_eq_true (List.mem_filter.mp hn).2), ht, hw⟩
  cases d with
  | pack x m h =>
    intro q hq
    obtain ⟨n, hn, rfl⟩ := List.mem_map.mp hq
    have h1 := rgI_mem.mp hn
    have h2 : 1 ≤ m ∧ m ≤ 100 := hb
    exact ⟨⟨by show 0 ≤ n; omega, by show n < 100; omega⟩, ho, six_all.1⟩
  | lade o t x a b => exact go a b o "laded" t ho.2 (by unfold six; decide +kernel)
  | sell h x a b => exact go a b h "sold" h ho (by unfold six; decide +kernel)
  | back h x a b => exact go a b h "back" h ho (by unfold six; decide +kernel)
  | tell h x ts =>
    intro q hq
    rcases List.mem_append.mp hq with hq | hq
    · obtain ⟨n, hn, rfl⟩ := List.mem_map.mp hq
      exact ⟨hW n _ ((ownL_mem hW).mp (List.mem_filter.mp hn).1), ho, six_all.2.2.2.2.2⟩
    · obtain ⟨n, hn, rfl⟩ := List.mem_map.mp hq
      obtain ⟨k, e⟩ := lkB_iff.mp (List.mem_filter.mp hn).2
      exact ⟨hW n _ e, ho, six_all.2.2.1⟩
theorem spot_word {num : Int} {m : Mov} (h : m.2.1 ∈ six) : wdOf (spotM num m) = (if m.2.1 ∈ (["packed", "laded", "found"] : List Str) then ("lying" : Str) else m.2.1) ∧ ∀ h', spotM num m = .ly h' → m.2.2 = h' := by
  obtain ⟨n, w, t⟩ := m
  have h : w ∈ six := h
  unfold six at h
  rcases List.mem_cons.mp h with rfl | h
  · rw [spot_packed]
    exact ⟨(if_pos (show  ("packed" : Str) ∈ (["packed", "laded", "found"] : List Str) by decide +kernel)).symm, fun h' e => by cases e; rfl⟩
  rcases List.mem_cons.mp h with rfl | h
  · rw [spot_laded]
    exact ⟨(if_pos (show  ("laded" : Str) ∈ (["packed", "laded", "found"] : List Str) by decide +kernel)).symm, fun h' e => by cases e; rfl⟩
  rcases List.mem_cons.mp h with rfl | h
  · rw [spot_found]
    exact ⟨(if_pos (show  ("found" : Str) ∈ (["packed", "laded", "found"] : List Str) by decide +kernel)).symm, fun h' e => by cases e; rfl⟩
  rcases List.mem_cons.mp h with rfl | h
  · rw [spot_sold]
    exact ⟨(if_neg (show ¬ ("sold" : Str) ∈ (["packed", "laded", "found"] : List Str) by decide +kernel)).symm, fun h' e => by cases e⟩
  rcases List.mem_cons.mp h with rfl | h
  · rw [spot_back]
    exact ⟨(if_neg (show ¬ ("back" : Str) ∈ (["packed", "laded", "found"] : List Str) by decide +kernel)).symm, fun h' e => by cases e⟩
  rw [List.mem_singleton.mp h, spot_lacking]
  exact ⟨(if_neg (show ¬ ("lacking" : Str) ∈ (["packed", "laded", "found"] : List Str) by decide +kernel)).symm, fun h' e => by cases e⟩

/-! ### comprehensions: of these things those with p, each made into e -/
theorem lc_sel {α : Type} (zs : List α) (p : α → Bool) (e : α → PyData) {J : It} {n : Nat} {G : Hp → Prop} {Y : Nat → Hp → V → Hp → Prop} (w : Walk J n G Y) {g : TG} {tt : TT} {te : TE} {vs : List Nat} {σ : L2.St} {H1 : Hp} {D : Addr} {Qd : Hp → Prop} (cs : List Addr) (nD : H1 D = none) (hn : zs.length = n) (hz : n ≤ 100000) (hG : ∀ H, Same H1 H → G H)
    (turn : ∀ i x z H H' (Kt : V → Hp → Prop) (Kn : Hp → Prop), zs[i]? = some z → Same H1 H → (∃ ws, H D = some (.lst ws)) → Y i H x H' → (p z = true → ∀ y H4, Same H H4 → Thg (D :: cs) H4 y (e z) → Kt y H4) → (p z = false → ∀ H4, Same H H4 → Kn H4) → g x (wipe σ vs) H' fun σ2 H2 => wipe σ2 vs = wipe σ vs ∧ tt σ2 H2 fun b H3 => if b = true then te σ2 H3 Kt else Kn H3)
    (fin : ∀ H ws, Same H1 H → H D = some (.lst ws) → ThgL (D :: cs) H ws ((zs.filter p).map e) → Qd H) : LcW J g tt te vs σ D Qd H1 := by
  refine lc_it w (fun j H => Same H1 H ∧ ∃ ws, H D = some (.lst ws) ∧ ThgL (D :: cs) H ws (((zs.take j).filter p).map e)) ⟨same_upd nD, [], upd_same, ThgL.nil⟩ (fun i H _ p => hG H p.1) (fun i x H H' hi hP hy => ?_) (fun H hP => ?_)
  · obtain ⟨sm, ws, eD, hw⟩ := hP
    have hd : zs[i]? = some zs[i] := List.getElem?_eq_getElem (by omega)
    have et : zs.take (i + 1) = zs.take i ++ [zs[i]] := by rw [List.take_add_one, hd]; rfl
    refine turn i x zs[i] H H' _ _ hd sm ⟨ws, eD⟩ hy (fun hp y H4 s4 hy4 => ?_) (fun hp H4 s4 => ?_)
    · have eD4 := s4 _ _ eD
      have hl : ((zs.take i).filter p).length ≤ i := Nat.le_trans (List.length_filter_le ..) (by rw [List.length_take]; omega)
      have hwl := hw.1
      rw [List.length_map] at hwl
      refine ⟨ws, eD4, Nat.lt_of_lt_of_le (show ws.length < 100001 by omega) (by decide), fun b o eb => ?_, ws ++ [y], upd_same, ?_⟩
      · rw [upd_ne (ne_of_none eb nD)]
        exact s4 _ _ (sm b o eb)
      · rw [et, List.filter_append, List.filter_cons_of_pos hp, List.filter_nil, List.map_append]
        exact ((hw.same s4).upd eD4 (by simp)).append (ThgL.one (hy4.upd eD4 (by simp)))
    · refine ⟨sm.trans s4, ws, s4 _ _ eD, ?_⟩
      rw [et, List.filter_append, List.filter_cons_of_neg (by rw [hp]; decide), List.filter_nil, List.append_nil]
      exact hw.same s4
  · obtain ⟨sm, ws, eD, hw⟩ := hP
    rw [List.take_of_length_le (by omega)] at hw
    exact fin H ws sm eD hw

/-! ### deeds as data -/
def kD : L2.Key → PyData
  | .inl i => .int i
  | .inr x => .str x
theorem keys_thg {cs : List Addr} {H : Hp} : ∀ {ks : List L2.Key}, ThgL cs H (ks.map kV) (ks.map kD)
  | [] => ThgL.nil
  | .inl i :: r => ThgL.cons (.int i) keys_thg
  | .inr x :: r => ThgL.cons (.str x) keys_thg
def deedK : Deed → List L2.Key
  | .pack n m h => [.inr "pack", .inr n, .inl m, .inr h]
  | .lade o t n a b => [.inr "lade", .inr o, .inr t, .inr n, .inl a, .inl b]
  | .sell h n a b => [.inr "sell", .inr h, .inr n, .inl a, .inl b]
  | .back h n a b => [.inr "back", .inr h, .inr n, .inl a, .inl b]
  | .tell h n _ => [.inr "tell", .inr h, .inr n]
def deedT : Deed → List PyData
  | .tell _ _ t => [.list (t.map pairD)]
  | _ => []
def deedD (d : Deed) : PyData := .tuple ((deedK d).map kD ++ deedT d)
theorem Thg.deed {cs : List Addr} {H : Hp} {v : V} {d : Deed} (h : Thg cs H v (deedD d)) : ∃ D, v = .ref D ∧ DeedAt H D d := by
  obtain ⟨D, xs, rfl, eD, hx⟩ := h.tuple
  refine ⟨D, rfl, ?_⟩
  cases d with
  | pack n m h =>
    obtain ⟨_, _, rfl, g1, h1⟩ := hx.inv
    obtain ⟨_, _, rfl, g2, h2⟩ := h1.inv
    obtain ⟨_, _, rfl, g3, h3⟩ := h2.inv
    obtain ⟨_, _, rfl, g4, h4⟩ := h3.inv
    rw [g1.inv_str, g2.inv_str, g3.inv_int, g4.inv_str, h4.inv0] at eD
    exact eD
  | lade o t n a b =>
    obtain ⟨_, _, rfl, g1, h1⟩ := hx.inv
    obtain ⟨_, _, rfl, g2, h2⟩ := h1.inv
    obtain ⟨_, _, rfl, g3, h3⟩ := h2.inv
    obtain ⟨_, _, rfl, g4, h4⟩ := h3.inv
    obtain ⟨_, _, rfl, g5, h5⟩ := h4.inv
    obtain ⟨_, _, rfl, g6, h6⟩ := h5.inv
    rw [g1.inv_str, g2.inv_str, g3.inv_str, g4.inv_str, g5.inv_int, g6.inv_int, h6.inv0] at eD
    exact eD
  | sell h n a b =>
    obtain ⟨_, _, rfl, g1, h1⟩ := hx.inv
    obtain ⟨_, _, rfl, g2, h2⟩ := h1.inv
    obtain ⟨_, _, rfl, g3, h3⟩ := h2.inv
    obtain ⟨_, _, rfl, g4, h4⟩ := h3.inv
    obtain ⟨_, _, rfl, g5, h5⟩ := h4.inv
    rw [g1.inv_str, g2.inv_str, g3.inv_str, g4.inv_int, g5.inv_int, h5.inv0] at eD
    exact eD
  | back h n a b =>
    obtain ⟨_, _, rfl, g1, h1⟩ := hx.inv
    obtain ⟨_, _, rfl, g2, h2⟩ := h1.inv
    obtain ⟨_, _, rfl, g3, h3⟩ := h2.inv
    obtain ⟨_, _, rfl, g4, h4⟩ := h3.inv
    obtain ⟨_, _, rfl, g5, h5⟩ := h4.inv
    rw [g1.inv_str, g2.inv_str, g3.inv_str, g4.inv_int, g5.inv_int, h5.inv0] at eD
    exact eD
  | tell h n t =>
    obtain ⟨_, _, rfl, g1, h1⟩ := hx.inv
    obtain ⟨_, _, rfl, g2, h2⟩ := h1.inv
    obtain ⟨_, _, rfl, g3, h3⟩ := h2.inv
    obtain ⟨_, _, rfl, g4, h4⟩ := h3.inv
    obtain ⟨c, us, rfl, ec, _, hus⟩ := g4.list
    rw [g1.inv_str, g2.inv_str, g3.inv_str, h4.inv0] at eD
    exact ⟨c, eD, us, .inl ec, hus.prs⟩

/-! ### _law_deed, _law_heap -/
/-- a deed of these names and holders, its numbers bounded -/
def DeedIn (ns hs : List Str) (m : Int) : Deed → Prop
  | .pack n k h => n ∈ ns ∧ h ∈ hs ∧ 1 ≤ k ∧ k ≤ m
  | .lade o t n a b => n ∈ ns ∧ o ∈ hs ∧ t ∈ hs ∧ 0 ≤ a ∧ a ≤ b ∧ b ≤ 2 * m + 3
  | .sell h n a b => n ∈ ns ∧ h ∈ hs ∧ 0 ≤ a ∧ a ≤ b ∧ b ≤ 2 * m + 3
  | .back h n a b => n ∈ ns ∧ h ∈ hs ∧ 0 ≤ a ∧ a ≤ b ∧ b ≤ 2 * m + 3
  | .tell h n ts => n ∈ ns ∧ h ∈ hs ∧ (∃ lo, Ris lo ts) ∧ ∀ k, InS ts k → 0 ≤ k ∧ k < m + 2
theorem nth_str {ns : List Str} {r : Int} (h0 : 0 ≤ r) (h1 : r < (((ns.map V.str).length : Nat) : Int)) : ∃ x, x ∈ ns ∧ atI (ns.map V.str) r = some (.str x) := by
  obtain ⟨j, rfl⟩ := Int.eq_ofNat_of_zero_le h0
  rw [List.length_map] at h1
  have hj : j < ns.length := by omega
  exact ⟨ns[j], List.getElem_mem hj, atI_nat (by rw [List.getElem?_map, List.getElem?_eq_getElem hj]; rfl)⟩
theorem deed_new {cs : List Addr} {H : Hp} {D : Addr} {xs : List V} {d : Deed} (x : xs = (deedK d).map kV) (e : deedT d = []) : Thg cs (upd H D (.tup xs)) (.ref D) (deedD d) := by
  unfold deedD
  rw [e, List.append_nil]
  exact ThgL.tup (by rw [x]; exact keys_thg) upd_same

/-! ### sets within bounds are told -/
theorem up_told : ∀ {l : List Int}, l.Pairwise (· < ·) → ∃ rs, Told (fun n => n ∈ l) rs
  | [], _ => ⟨[], ⟨0, True.intro⟩, fun n => ⟨fun z => absurd z inS_nil, fun z => nomatch z⟩⟩
  | n :: r, h => by
    obtain ⟨h1, h2⟩ := List.pairwise_cons.mp h
    obtain ⟨rs, ht⟩ := up_told h2
    obtain ⟨lo, hr⟩ := ht.ris
    cases rs with
    | nil =>
      refine ⟨[(n, n)], ⟨n, Int.le_refl _, Int.le_refl _, True.intro⟩, fun m => ?_⟩
      rw [inS_cons, List.mem_cons]
      constructor
      · rintro (z | z)
        · have h3 : n ≤ m := z.1
          have h4 : m ≤ n := z.2
          exact .inl (by omega)
        · exact absurd z inS_nil
      · rintro (rfl | z)
        · exact .inl ⟨Int.le_refl _, Int.le_refl _⟩
        · exact absurd ((ht.same m).mpr z) inS_nil
    | cons p t =>
      obtain ⟨a, b⟩ := p
      obtain ⟨_, hab, ht3⟩ := hr
      have hab : a ≤ b := hab
      have ht3 : Ris (b + 2) t := ht3
      have hna : n < a := h1 a ((ht.same a).mp ⟨(a, b), List.mem_cons_self .., Int.le_refl _, hab⟩)
      by_cases c : a = n + 1
      · refine ⟨(n, b) :: t, ⟨n, Int.le_refl _, (by show n ≤ b; omega), ht3⟩, fun m => ?_⟩
        rw [inS_cons, List.mem_cons, ← ht.same m, inS_cons]
        constructor
        · rintro (z | z)
          · have h3 : n ≤ m := z.1
            have h4 : m ≤ b := z.2
            by_cases e : m = n
            · exact .inl e
            · exact .inr (.inl ⟨by show a ≤ m; omega, h4⟩)
          · exact .inr (.inr z)
        · rintro (rfl | z | z)
          · exact .inl ⟨Int.le_refl _, by show m ≤ b; omega⟩
          · exact .inl ⟨by show n ≤ m; have h3 : a ≤ m := z.1; omega, z.2⟩
          · exact .inr z
      · refine ⟨(n, n) :: (a, b) :: t, ⟨n, Int.le_refl _, Int.le_refl _, (by show n + 2 ≤ a; omega), hab, ht3⟩, fun m => ?_⟩
        rw [inS_cons, List.mem_cons, ← ht.same m]
        constructor
        · rintro (z | z)
          · have h3 : n ≤ m := z.1
            have h4 : m ≤ n := z.2
            exact .inl (by omega)
          · exact .inr z
        · rintro (rfl | z)
          · exact .inl ⟨Int.le_refl _, Int.le_refl _⟩
          · exact .inr z
theorem told_list : ∀ l : List Int, ∃ rs, Told (fun n => n ∈ l) rs := by
  have up : ∀ l : List Int, ∃ u : List Int, u.Pairwise (· < ·) ∧ ∀ n, n ∈ u ↔ n ∈ l := fun l => by
    induction l with
    | nil => exact ⟨[], List.Pairwise.nil, fun _ => Iff.rfl⟩
    | cons n r ih =>
      obtain ⟨u, h1, h2⟩ := ih
      refine ⟨u.filter (fun m => decide (m < n)) ++ n :: u.filter (fun m => decide (n < m)), List.pairwise_append.mpr ⟨h1.sublist List.filter_sublist, List.pairwise_cons.mpr ⟨fun m hm => of_decide_eq_true (List.mem_filter.mp hm).2, h1.sublist List.filter_sublist⟩, fun a ha b hb => ?_⟩, fun m => ?_⟩
      · have h3 : a < n := of_decide_eq_true (List.mem_filter.mp ha).2
        rcases List.mem_cons.mp hb with e | e
        · omega
        · have h4 : n < b := of_decide_eq_true (List.mem_filter.mp e).2
          omega
      · rw [List.mem_append, List.mem_cons, List.mem_filter, List.mem_filter, List.mem_cons, h2, decide_eq_true_iff, decide_eq_true_iff]
        constructor
        · rintro (⟨z, _⟩ | z | ⟨z, _⟩)
          · exact .inr z
          · exact .inl z
          · exact .inr z
        · rintro (z | z)
          · exact .inr (.inl z)
          · rcases Int.lt_trichotomy m n with c | c | c
            · exact .inl ⟨z, c⟩
            · exact .inr (.inl c)
            · exact .inr (.inr ⟨z, c⟩)
  exact fun l => let ⟨u, h1, h2⟩ := up l; let ⟨rs, ht⟩ := up_told h1; ⟨rs, ht.cong h2⟩
theorem told_sup {q : Int → Prop} (h : ∀ n, q n → 0 ≤ n ∧ n < 100) : Told q (canon q) := by
  classical
  obtain ⟨rs, ht⟩ := told_list ((rgI (0, 99)).filter fun n => decide (q n))
  have ht2 : Told q rs := ht.cong fun n => by
    rw [List.mem_filter, rgI_mem, decide_eq_true_iff]
    exact ⟨fun z => z.2, fun z => ⟨by have := h n z; show (0 : Int) ≤ n ∧ n ≤ 99; omega, z⟩⟩
  rw [← ht2.canon]
  exact ht2

/-! ### d.update(list of pairs) -/
section
open PySem PySem.Spec PyProof PyProof.Rows L2
variable {X : Cx}
def rUpd (K : PySem.W.Frag) : V → List V → Hp → VK → Prop := fun x xs H Q => ∃ (d a : Addr) (acc : List (L2.Key × V)) (ps : List Addr) (kvs : List (L2.Key × V)), x = .ref d ∧ xs = [.ref a] ∧ H d = some (.dK acc) ∧ SqL K H a (ps.map V.ref) ∧ Paired (fun p kv => SqT K H p [kV kv.1, kv.2]) ps kvs ∧ acc.length + kvs.length ≤ sizeLine ∧ Q .non (upd H d (.dK (mergeK acc kvs)))
theorem mt_upd (hcalm : X.calm = true) : MtM X "dict.update" (rUpd X.K) := by
  intro pins s σ H x xs v us Q I rx rv h
  obtain ⟨d, a, acc, ps, kvs, rfl, rfl, ed, hq, hp, hsz, q⟩ := h
  cases rx
  obtain ⟨u, rfl, ru⟩ := rv.one
  cases ru
  obtain ⟨its, rv', pl, hz⟩ := I.list hq
  have ei := refs_at rv'
  subst ei
  rw [List.length_map] at hz
  obtain ⟨prs, rel, hl, hpr⟩ := pairs_of I hp
  obtain ⟨o, n, ho, hc, hd, hdat⟩ := pl
  obtain ⟨z, hsd, vs, relA, dd⟩ := dk_of I.hok ed
  have hh : X.A.handled = none := I.ok.hd hcalm
  have hla : acc.length = vs.length := relA.length
  have hlk : kvs.length = prs.length := rel.length
  have hda : d ≠ a := fun e => by
    subst e
    obtain ⟨o', h1, h2⟩ := dd.typeIs
    rw [ho] at h1
    cases h1
    rw [hc] at h2
    exact absurd h2 (by decide)
  have hdl : d < s.heap.objs.size := let ⟨_, _, _, hq, _⟩ := dd; Heap.lt_size hq
  refine call_meetsIn PySem.F.slot_dict_update dd.typeIs PySem.F.entry_dict_update (PySem.F.args_dict_update_2 _ _)
    (S := fun A' R s' => A' = X.A ∧ s' = s ∧ ∀ h' tk, h'.DictOf (mixKind X.prog X.w) d (merged vs prs) → (∀ b o, b ≠ d → s.heap.get? b = some o → h'.get? b = some o) → R (.ok (.ret .none)) { s with heap := h', toks := tk })
    (fun A' R s' hS => ?_) ⟨rfl, rfl, fun h' tk hd' k => ?_⟩
  · obtain ⟨rfl, rfl, hR⟩ := hS
    unfold Builtin.«dict.update»
    refine wpAny_bind ?_
    unfold Builtin.Dict.selfAndRest
    refine wpAny_bind (wpAny_notOrdered_dict dd.typeIs ?_)
    show wpAny _ _ (pure (d, [Value.ref a])) _ _ _
    refine wpAny_pure ?_
    show wpAny _ _ (Builtin.Dict.updateFrom "dict.update" d (.ref a) [] .none) _ _ _
    unfold Builtin.Dict.updateFrom
    refine wpAny_bind (wpAny_typeOf (T := "list") ⟨o, ho, hc⟩ ?_)
    rw [if_pos (by first | decide | rfl | simp)]
    refine wpAny_bind (miss_list ho hc hdat hd hh fun h1 tk1 hk1 => ?_)
    rw [if_pos (show (none : Option Value).isNone = true from rfl)]
    refine wpAny_bind (wpAny_rule ?_)
    have hl1 : h1.IsList a _ := ⟨o, hk1 _ _ ho, hc, n, hdat⟩
    refine wpAny_bind (wpAny_pyIter_list hl1 ?_)
    have k2 : ∀ b o, h1.get? b = some o → (h1.push { cls := .type "list_iterator", data := .fields #[.ref a, .int 0 0] }).get? b = some o := fun b o e => Heap.get?_push_of_some _ e
    have hS1 : d < h1.objs.size := let ⟨_, _, _, hq, _⟩ := dd; Heap.lt_size (hk1 _ _ hq)
    have ha1 : a < h1.objs.size := Heap.lt_size (hk1 _ _ ho)
    have hof : ∀ {b : Addr} {zs : Array Value}, IsTup s'.heap b zs → b ≠ d := fun {b zs} ht e => by
      subst e
      obtain ⟨o', h1, h2⟩ := dd.typeIs
      obtain ⟨o2, h3, h4, _⟩ := ht
      rw [h3] at h1
      cases h1
      rw [h4] at h2
      exact absurd h2 (by decide)
    have key := upd_loop (prog := X.prog) (w := X.w) (A := X.A) (R := R) (S := d) (I := h1.objs.size) (l := a) (items := (ps.map Value.ref).toArray) (res := Value.none) hh
      (Nat.ne_of_lt ha1) (Nat.ne_of_lt hS1) hda prs 0 vs 0 0
      { s' with heap := h1.push { cls := .type "list_iterator", data := .fields #[.ref a, .int 0 0] }, toks := tk1 } (by simp [hl]) (by omega)
      (fun j q e => by
        obtain ⟨b, u, e1, e2, e3⟩ := hpr j q e
        have hb1 : b < h1.objs.size := by
          obtain ⟨o2, h3, _⟩ := id e2
          exact Heap.lt_size (hk1 _ _ h3)
        exact ⟨b, u, by simp [e1], hof e2, Nat.ne_of_lt hb1, e2.keeps fun c o z => k2 _ _ (hk1 _ _ z), e3⟩)
      ⟨_, Heap.get?_push_size _ rfl, rfl, rfl⟩ (hl1.at fun o e => k2 _ _ e) ((dd.at fun o e => hk1 _ _ e).at fun o e => k2 _ _ e)
      (fun h' tk hd' k => hR h' tk hd' fun b o hb e => k b o hb (Nat.ne_of_lt (Heap.lt_size (hk1 _ _ e))) (k2 _ _ (hk1 _ _ e)))
    exact wpAny_pure ⟨plainId_quiet ud_plain _, key⟩
  · have he : ∃ q, h'.get? d = some q := let ⟨q, _, _, hq, _⟩ := hd'; ⟨q, hq⟩
    have hlen : (mergeK acc kvs).length ≤ sizeLine := Nat.le_trans (length_mergeK kvs acc) hsz
    exact ⟨.non, upd H d (.dK (mergeK acc kvs)), I.write (x := d) (e := d) (by rw [ed]; exact True.intro) (.inl rfl) (fun b o hb e => k b o hb e) he (dk_new hlen hsd (KV.merge rel relA) hd'), rfl, q⟩
end

/-! ### dicts {int: text}: where the cases of a packing are -/
structure WD (kvs : List (L2.Key × V)) (T : Int → Option Str) : Prop where
  get : ∀ n, valV kvs (.inl n) = (T n).map V.str
  key : ∀ e ∈ kvs, ∃ n t, e = (.inl n, .str t)
  nd : (kvs.map (·.1)).Nodup
def txtOf : Spt → Str
  | .ly h => h
  | .sold => "sold!"
  | .back => "back!"
  | .lk _ => "lacking!"
def txF (W : Whr) : Int → Option Str := fun n => (W n).map txtOf
theorem valK_at : ∀ {kvs : List (L2.Key × V)}, (kvs.map (·.1)).Nodup → ∀ e ∈ kvs, valV kvs e.1 = some e.2
  | [], _, e, he => nomatch he
  | p :: r, nd, e, he => by
    obtain ⟨n1, n2⟩ := List.nodup_cons.mp (show (p.1 :: r.map (·.1)).Nodup from nd)
    by_cases c : p.1 = e.1
    · rw [valV_pos c]
      rcases List.mem_cons.mp he with z | z
      · rw [z]
      · exact absurd (List.mem_map.mpr ⟨e, z, c.symm⟩) n1
    · rw [valV_neg c]
      rcases List.mem_cons.mp he with z | z
      · exact absurd (by rw [z]) c
      · exact valK_at n2 e z
theorem WD.nil : WD [] fun _ => none := ⟨fun _ => rfl, (fun _ h => nomatch h), List.nodup_nil⟩
theorem WD.mem {kvs : List (L2.Key × V)} {T : Int → Option Str} (h : WD kvs T) {n : Int} {t : Str} : ((.inl n, .str t) : L2.Key × V) ∈ kvs ↔ T n = some t := by
  constructor
  · intro m
    have := valK_at h.nd _ m
    have this : valV kvs (.inl n) = some (.str t) := this
    rw [h.get] at this
    cases hT : T n with
    | none => rw [hT] at this; cases this
    | some u =>
      rw [hT] at this
      rw [V.str.inj (Option.some.inj this)]
  · intro e
    have h1 := h.get n
    rw [e] at h1
    unfold valV at h1
    obtain ⟨e0, h2, h3⟩ := Option.map_eq_some_iff.mp h1
    have hm := List.mem_of_find?_eq_some h2
    have hk := of_decide_eq_true (List.find?_some (p := fun kv : L2.Key × V => decide (kv.1 = (.inl n : L2.Key))) h2)
    obtain ⟨m, u, rfl⟩ := h.key e0 hm
    have hk : (.inl m : L2.Key) = .inl n := hk
    have h3 : V.str u = V.str t := h3
    rw [Sum.inl.inj hk, V.str.inj h3] at hm
    exact hm
theorem WD.put {kvs : List (L2.Key × V)} {T : Int → Option Str} (h : WD kvs T) (n : Int) (t : Str) : WD (putK kvs (.inl n) (.str t)) fun m => if m = n then some t else T m := by
  have hk : ∀ e ∈ putK kvs (.inl n : L2.Key) (.str t), ∃ m u, e = ((.inl m, .str u) : L2.Key × V) := fun e he => by
    unfold putK at he
    split at he
    · obtain ⟨e0, h0, rfl⟩ := List.mem_map.mp he
      split
      · obtain ⟨m, u, rfl⟩ := h.key e0 h0
        exact ⟨_, _, rfl⟩
      · exact h.key e0 h0
    · rcases List.mem_append.mp he with z | z
      · exact h.key e z
      · rw [List.mem_singleton.mp z]
        exact ⟨_, _, rfl⟩
  refine ⟨fun m => ?_, hk, ?_⟩
  · rw [valV_put]
    by_cases c : m = n
    · rw [c, if_pos rfl, if_pos rfl]
      rfl
    · rw [if_neg (fun z => c (Sum.inl.inj z)), if_neg c, h.get]
  · unfold putK
    split
    · have : (kvs.map fun kv => if kv.1 = (.inl n : L2.Key) then (kv.1, V.str t) else kv).map (·.1) = kvs.map (·.1) := by
        rw [List.map_map]
        refine List.map_congr_left fun e _ => ?_
        show (if e.1 = (.inl n : L2.Key) then (e.1, V.str t) else e).1 = e.1
        split <;> rfl
      rw [this]; exact h.nd
    · rename_i c
      rw [List.map_append]
      refine List.nodup_append.mpr ⟨h.nd, List.nodup_cons.mpr ⟨(fun z => nomatch z), List.nodup_nil⟩, fun x hx y hy e => ?_⟩
      obtain ⟨e0, h0, rfl⟩ := List.mem_map.mp hx
      rw [List.mem_singleton.mp hy] at e
      exact c (List.any_eq_true.mpr ⟨e0, h0, decide_eq_true e⟩)

/-! ### dicts {int: text}: more -/
def kvS (p : Int × Str) : L2.Key × V := (.inl p.1, .str p.2)
def pairSD (p : Int × Str) : PyData := .tuple [.int p.1, .str p.2]
theorem WD.cong {kvs : List (L2.Key × V)} {T T' : Int → Option Str} (h : WD kvs T) (e : ∀ n, T n = T' n) : WD kvs T' := by
  rw [show T' = T from funext fun n => (e n).symm]
  exact h
theorem WD.merge : ∀ (ps : List (Int × Str)) {kvs : List (L2.Key × V)} {T T' : Int → Option Str}, WD kvs T → (∀ p ∈ ps, T' p.1 = some p.2) → (∀ n, (∀ p ∈ ps, p.1 ≠ n) → T' n = T n) → WD (mergeK kvs (ps.map kvS)) T'
  | [], kvs, T, T', h, _, h2 => h.cong fun n => (h2 n fun _ z => nomatch z).symm
  | p :: r, kvs, T, T', h, h1, h2 => by
    show WD (mergeK (putK kvs (.inl p.1) (.str p.2)) (r.map kvS)) T'
    refine WD.merge r (h.put p.1 p.2) (fun q hq => h1 q (List.mem_cons_of_mem _ hq)) fun n hn => ?_
    by_cases c : n = p.1
    · rw [if_pos c, c]; exact h1 p (List.mem_cons_self ..)
    · rw [if_neg c]
      refine h2 n fun q hq => ?_
      rcases List.mem_cons.mp hq with z | z
      · rw [z]; exact fun e => c e.symm
      · exact hn q z
theorem WD.sub {k1 k2 : List (L2.Key × V)} {T : Int → Option Str} (h1 : WD k1 T) (h2 : WD k2 T) : k1.length ≤ k2.length := by
  have := sub_len (xs := k1.map (·.1)) (ys := k2.map (·.1)) h1.nd fun x hx => by
    obtain ⟨e, he, rfl⟩ := List.mem_map.mp hx
    obtain ⟨n, t, rfl⟩ := h1.key e he
    exact List.mem_map.mpr ⟨_, h2.mem.mpr (h1.mem.mp he), rfl⟩
  rwa [List.length_map, List.length_map] at this
theorem WD.len {k1 k2 : List (L2.Key × V)} {T : Int → Option Str} (h1 : WD k1 T) (h2 : WD k2 T) : k1.length = k2.length := Nat.le_antisymm (h1.sub h2) (h2.sub h1)
theorem WD.hits {k1 k2 : List (L2.Key × V)} {T : Int → Option Str} (h1 : WD k1 T) (h2 : WD k2 T) : ∀ p ∈ k1, valV k2 p.1 = some p.2 ∧ flatB p.2 = true := fun p hp => by
  obtain ⟨n, t, rfl⟩ := h1.key p hp
  refine ⟨?_, rfl⟩
  rw [h2.get, h1.mem.mp hp]
  rfl
theorem WD.few {kvs : List (L2.Key × V)} {T : Int → Option Str} {m : Nat} (h : WD kvs T) (hb : ∀ n t, T n = some t → 0 ≤ n ∧ n < (m : Int)) : kvs.length ≤ m := by
  have := sub_len (xs := kvs.map (·.1)) (ys := (List.range m).map fun j : Nat => ((.inl (j : Int)) : L2.Key)) h.nd fun x hx => by
    obtain ⟨e, he, rfl⟩ := List.mem_map.mp hx
    obtain ⟨n, t, rfl⟩ := h.key e he
    have := hb n t (h.mem.mp he)
    exact List.mem_map.mpr ⟨n.toNat, List.mem_range.mpr (by omega), congrArg Sum.inl (by omega)⟩
  rwa [List.length_map, List.length_map, List.length_range] at this
theorem WD.at {kvs : List (L2.Key × V)} {T : Int → Option Str} (h : WD kvs T) {i : Nat} {k : L2.Key} {v : V} (e : kvs[i]? = some (k, v)) : ∃ n t, k = .inl n ∧ v = .str t ∧ T n = some t := by
  have he := List.mem_of_getElem? e
  obtain ⟨n, t, e2⟩ := h.key _ he
  cases e2
  exact ⟨n, t, rfl, rfl, h.mem.mp he⟩
theorem WD.dget {H : Hp} {a : Addr} {kvs : List (L2.Key × V)} {T : Int → Option Str} (h : WD kvs T) (e : Rd H a (.dK kvs)) (n : Int) : DGet H a (.int n) ((T n).map V.str) := .inl ⟨kvs, .inl n, e, rfl, (h.get n).symm⟩
theorem pairs_thg {K : PySem.W.Frag} {cs : List Addr} {H : Hp} : ∀ {ps : List (Int × Str)} {ws : List V}, ThgL cs H ws (ps.map pairSD) → ∃ as : List Addr, ws = as.map V.ref ∧ Paired (fun p kv => SqT K H p [kV kv.1, kv.2]) as (ps.map kvS)
  | [], ws, h => ⟨[], by rw [h.inv0]; rfl, .nil⟩
  | p :: r, ws, h => by
    obtain ⟨x, ws', rfl, h1, h2⟩ := h.inv
    obtain ⟨a, xs, rfl, ea, hx⟩ := h1.tuple
    obtain ⟨_, _, rfl, g1, h3⟩ := hx.inv
    obtain ⟨_, _, rfl, g2, h4⟩ := h3.inv
    rw [g1.inv_int, g2.inv_str, h4.inv0] at ea
    obtain ⟨as, rfl, hp⟩ := pairs_thg h2
    exact ⟨a :: as, rfl, .cons (.inl (.inl ea)) hp⟩
/-! ### texts of spots -/
/-- letters alone -/
def Ltr (x : Str) : Prop := ∃ cs : List Nat, x = SX.S cs ∧ cs ≠ [] ∧ ∀ ch ∈ cs, 97 ≤ ch ∧ ch ≤ 122
theorem NamesOk.ltr {xs : List Str} (h : NamesOk xs) : ∀ x ∈ xs, Ltr x := fun x hx => by
  obtain ⟨cs, e, h1, _, h3⟩ := h.2 x hx
  exact ⟨cs, e, (fun z => by rw [z] at h1; exact absurd h1 (by decide)), h3⟩
theorem Ltr.ne {x : Str} (h : Ltr x) (ds : List Nat) (hd : 33 ∈ ds) : x ≠ SX.S ds := fun e => by
  obtain ⟨cs, e2, _, h3⟩ := h
  rw [e2] at e
  have := SX.S_inj e
  rw [← this] at hd
  have := h3 _ hd
  omega
theorem Ltr.ne1 {x : Str} (h : Ltr x) : x ≠ "sold!" := h.ne [115, 111, 108, 100, 33] (by decide)
theorem Ltr.ne2 {x : Str} (h : Ltr x) : x ≠ "back!" := h.ne [98, 97, 99, 107, 33] (by decide)
theorem Ltr.ne3 {x : Str} (h : Ltr x) : x ≠ "lacking!" := h.ne [108, 97, 99, 107, 105, 110, 103, 33] (by decide)
theorem Ltr.ne0 {x : Str} (h : Ltr x) : x ≠ "" := fun e => by
  obtain ⟨cs, e2, h2, _⟩ := h
  rw [e2] at e
  exact h2 (SX.S_inj (e.trans (show ("" : Str) = SX.S [] from rfl)))
theorem txt_ly {h : Str} (hl : Ltr h) {s : Spt} : txtOf s = h ↔ s = .ly h := by
  constructor
  · intro e
    cases s with
    | ly y => exact congrArg Spt.ly e
    | sold => exact absurd e.symm hl.ne1
    | back => exact absurd e.symm hl.ne2
    | lk n => exact absurd e.symm hl.ne3
  · intro e; rw [e]; rfl
theorem txF_ly {W : Whr} {h : Str} (hl : Ltr h) {n : Int} : txF W n = some h ↔ W n = some (.ly h) := by
  unfold txF
  cases e : W n with
  | none => exact ⟨(fun z => nomatch z), (fun z => nomatch z)⟩
  | some s =>
    constructor
    · intro z
      rw [(txt_ly hl).mp (Option.some.inj z)]
    · intro z
      rw [Option.some.inj z]
      rfl
/-- all holders are letters -/
def LtrW (W : Whr) : Prop := ∀ n h, W n = some (.ly h) → Ltr h
theorem txF_lk {W : Whr} (hW : LtrW W) {n : Int} : txF W n = some ("lacking!" : Str) ↔ ∃ k, W n = some (.lk k) := by
  unfold txF
  cases e : W n with
  | none => exact ⟨(fun z => nomatch z), (fun ⟨_, z⟩ => nomatch z)⟩
  | some s =>
    constructor
    · intro z
      have z := Option.some.inj z
      cases s with
      | ly y => exact absurd z (hW n y e).ne3
      | sold => exact absurd z (by decide +kernel)
      | back => exact absurd z (by decide +kernel)
      | lk k => exact ⟨k, rfl⟩
    · rintro ⟨k, z⟩
      rw [Option.some.inj z]
      rfl
/-- a deed that is no packing, of letters, goes where nothing was -/
def DoneD : Deed → Prop
  | .pack .. => False
  | .lade o t _ _ _ => o ≠ t
  | _ => True
theorem do_dom {num : Int} {d : Deed} {W : Whr} (hd : isPack d = false) (n : Int) : (doF num d W).1 n = none ↔ W n = none := by
  have ca : ∀ o g p, caW W o g p n = none ↔ W n = none := fun o g p => by
    unfold caW
    split
    · rename_i c; rw [c.1]; exact ⟨(fun z => nomatch z), (fun z => nomatch z)⟩
    · exact Iff.rfl
  cases d with
  | pack => cases hd
  | lade => exact ca _ _ _
  | sell => exact ca _ _ _
  | back => exact ca _ _ _
  | tell h x ts =>
    show teW W h num (InS ts) n = none ↔ _
    unfold teW
    split
    · rename_i c; obtain ⟨⟨k, c⟩, _⟩ := c; rw [c]; exact ⟨(fun z => nomatch z), (fun z => nomatch z)⟩
    · split
      · rename_i c; rw [c.1]; exact ⟨(fun z => nomatch z), (fun z => nomatch z)⟩
      · exact Iff.rfl
def LtrD : Deed → Prop
  | .pack _ _ h => Ltr h
  | .lade o t _ _ _ => Ltr o ∧ Ltr t
  | .sell h _ _ _ => Ltr h
  | .back h _ _ _ => Ltr h
  | .tell h _ _ => Ltr h
theorem do_ltr {num : Int} {d : Deed} {W : Whr} (hd : LtrD d) (hW : LtrW W) : LtrW (doF num d W).1 := by
  have ca : ∀ o g p, (∀ h, g = .ly h → Ltr h) → LtrW (caW W o g p) := fun o g p hg n h e => by
    unfold caW at e
    split at e
    · exact hg h (Option.some.inj e)
    · exact hW n h e
  cases d with
  | pack x m y =>
    intro n h e
    have e : ptW W (.ly y) (AskS 0 (m - 1)) n = some (.ly h) := e
    rcases pt_at.mp e with ⟨_, z⟩ | ⟨_, z⟩
    · rw [Spt.ly.inj z]; exact hd
    · exact hW n h z
  | lade o t x a b => exact ca _ _ _ fun h e => by rw [← Spt.ly.inj e]; exact hd.2
  | sell h x a b => exact ca _ _ _ fun h e => nomatch e
  | back h x a b => exact ca _ _ _ fun h e => nomatch e
  | tell y x ts =>
    intro n h e
    have e : teW W y num (InS ts) n = some (.ly h) := e
    unfold teW at e
    split at e
    · rw [← Spt.ly.inj (Option.some.inj e)]; exact hd
    · split at e
      · cases Option.some.inj e
      · exact hW n h e
theorem hasN_one (x : Str) (W : Whr) : hasN [(x, W)] x = true := by
  unfold hasN
  simp
theorem whF_one (x : Str) (W : Whr) : whF [(x, W)] x = W := by
  unfold whF
  simp
theorem psF_one (x : Str) (W W' : Whr) : psF [(x, W)] x W' = [(x, W')] := by
  unfold psF
  rw [if_pos (hasN_one x W)]
  simp
theorem pg_one {x : Str} {W : Whr} {p : Page} (hn : p.deed.nam = x) (hd : DoneD p.deed) : pgF p [(x, W)] = ([(x, (doF p.num p.deed W).1)], ⟨p.num, x, "done", (doF p.num p.deed W).2.1, (doF p.num p.deed W).2.2⟩) := by
  have hw : wdF p.deed [(x, W)] = "done" := by
    revert hn hd
    generalize p.deed = d
    intro hn hd
    cases d with
    | pack => exact absurd hd id
    | lade o t y a b =>
      obtain rfl : y = x := hn
      show (if hasN [(y, W)] y = true then (if o = t then ("same" : Str) else "done") else "strange") = "done"
      rw [if_pos (hasN_one y W), if_neg hd]
    | sell h y a b => obtain rfl : y = x := hn; exact if_pos (hasN_one y W)
    | back h y a b => obtain rfl : y = x := hn; exact if_pos (hasN_one y W)
    | tell h y ts => obtain rfl : y = x := hn; exact if_pos (hasN_one y W)
  unfold pgF
  rw [if_pos hw, hn, whF_one, psF_one]
theorem go_pack {x h : Str} {m day num : Int} : goF [] [⟨day, num, .pack x m h⟩] = ([(x, ptW (fun _ => none) (.ly h) (AskS 0 (m - 1)))], [⟨num, x, "done", [], [("packed", h, [(0, m - 1)])]⟩]) := rfl

/-! ### drawn heaps: what the promises want of them -/
theorem letters_ok {cs : List Nat} (h : ∀ ch ∈ cs, 97 ≤ ch ∧ ch ≤ 122) : PyData.strOk (SX.S cs) = true := by
  unfold PyData.strOk
  rw [Array.all_eq_true]
  intro i hi
  have hi' : i < cs.length := by simpa [SX.S] using hi
  have e : (SX.S cs).cps[i] = cs[i] := by simp [SX.S]
  rw [e]
  have := h cs[i] (List.getElem_mem hi')
  exact decide_eq_true (by omega)
theorem NamesOk.strs {xs : List Str} (h : NamesOk xs) : ∀ x ∈ xs, PyData.strOk x = true := fun x hx => by
  obtain ⟨cs, rfl, _, _, hc⟩ := h.2 x hx
  exact letters_ok hc
def SPs (hs : List Str) : List Spt := hs.map Spt.ly ++ .sold :: .back :: (rgI (0, 60)).map Spt.lk
theorem SPs_len (hs : List Str) : (SPs hs).length = hs.length + 63 := by
  unfold SPs
  rw [List.length_append, List.length_map, List.length_cons, List.length_cons, List.length_map, rgI_len]
  rfl
theorem SPs_ly {hs : List Str} {h : Str} (m : h ∈ hs) : Spt.ly h ∈ SPs hs := List.mem_append_left _ (List.mem_map.mpr ⟨h, m, rfl⟩)
theorem SPs_sold (hs : List Str) : Spt.sold ∈ SPs hs := List.mem_append_right _ (List.mem_cons_self ..)
theorem SPs_back (hs : List Str) : Spt.back ∈ SPs hs := List.mem_append_right _ (List.mem_cons_of_mem _ (List.mem_cons_self ..))
theorem SPs_lk (hs : List Str) {n : Int} (h : 0 ≤ n ∧ n < 61) : Spt.lk n ∈ SPs hs := List.mem_append_right _ (List.mem_cons_of_mem _ (List.mem_cons_of_mem _ (List.mem_map.mpr ⟨n, rgI_mem.mpr (show (0 : Int) ≤ n ∧ n ≤ 60 by omega), rfl⟩)))
abbrev E91 : List Int := rgI (0, 90)
theorem E91_len : E91.length ≤ 300 := by
  rw [rgI_len]
  decide
theorem E91_mem {n : Int} (h : 0 ≤ n ∧ n ≤ 90) : n ∈ E91 := rgI_mem.mpr h
theorem fit_in {ns hs : List Str} {m num : Int} {d : Deed} (h : DeedIn ns hs m d) (hm : m ≤ 40) (hn : 0 ≤ num ∧ num < 61) : d.Fit E91 (SPs hs) num := by
  cases d with
  | pack x k y =>
    obtain ⟨_, h2, h3, h4⟩ := h
    exact ⟨h3, E91_mem (by omega), E91_mem (by omega), SPs_ly h2⟩
  | lade o t x a b =>
    obtain ⟨_, h2, h3, h4, h5, h6⟩ := h
    exact ⟨h5, E91_mem (by omega), E91_mem (by omega), SPs_ly h2, SPs_ly h3⟩
  | sell y x a b =>
    obtain ⟨_, h2, h4, h5, h6⟩ := h
    exact ⟨h5, E91_mem (by omega), E91_mem (by omega), SPs_ly h2, SPs_sold hs⟩
  | back y x a b =>
    obtain ⟨_, h2, h4, h5, h6⟩ := h
    exact ⟨h5, E91_mem (by omega), E91_mem (by omega), SPs_ly h2, SPs_back hs⟩
  | tell y x ts =>
    obtain ⟨_, h2, h3, h4⟩ := h
    refine ⟨h3, fun n hnE => ?_, SPs_ly h2, SPs_lk hs hn⟩
    have hnE : ¬ (0 ≤ n ∧ n ≤ 90) := fun z => hnE (E91_mem z)
    constructor
    · intro z
      have := h4 n z
      omega
    · intro z
      have := h4 (n - 1) z
      omega
theorem dbd_in {ns hs : List Str} {m : Int} {d : Deed} (h : DeedIn ns hs m d) (hm : m ≤ 40) : DBd d := by
  cases d with
  | pack x k y =>
    obtain ⟨_, h2, h3, h4⟩ := h
    exact ⟨h3, by omega⟩
  | lade o t x a b =>
    obtain ⟨_, h2, h3, h4, h5, h6⟩ := h
    exact ⟨h4, h5, by omega⟩
  | sell y x a b =>
    obtain ⟨_, h2, h4, h5, h6⟩ := h
    exact ⟨h4, h5, by omega⟩
  | back y x a b =>
    obtain ⟨_, h2, h4, h5, h6⟩ := h
    exact ⟨h4, h5, by omega⟩
  | tell y x ts =>
    obtain ⟨_, h2, h3, h4⟩ := h
    exact ⟨h3, fun n hn => by have := h4 n hn; omega⟩
theorem ho_in {ns hs : List Str} {m : Int} {d : Deed} (h : DeedIn ns hs m d) (hh : ∀ x ∈ hs, PyData.strOk x = true) : HoOk d := by
  cases d with
  | pack x k y => exact hh _ h.2.1
  | lade o t x a b => exact ⟨hh _ h.2.1, hh _ h.2.2.1⟩
  | sell y x a b => exact hh _ h.2.1
  | back y x a b => exact hh _ h.2.1
  | tell y x ts => exact hh _ h.2.1
theorem nam_in {ns hs : List Str} {m : Int} {d : Deed} (h : DeedIn ns hs m d) : d.nam ∈ ns := by cases d <;> exact h.1
theorem Thg.datW {cs : List Addr} {H : Hp} {v : V} {d : PyData} (h : Thg cs H v d) : Dat H v d := by
  induction h with
  | non => exact .non
  | bl b => exact .bl b
  | int i => exact .int i
  | str x => exact .str x
  | lst e _ l _ ih => exact .lst e l ih
  | tup e l _ ih => exact .tup e l ih
theorem StAt.noTabW {H H' : Hp} {d c : Addr} {t : Int} (S : StAt H d c t) (n : GX.NoTab H H') : StAt H' d c t := by
  obtain ⟨cs, ec, r⟩ := S.cells
  exact ⟨n.keep _ _ S.dict (fun _ z => nomatch z), ⟨cs, n.lst ec, r⟩, S.pos⟩
theorem tq_kpW {Ms : GX.Mq} {Xs : List Addr} {H H' : Hp} {d c : Addr} {t : Int} (h : GX.TQ Ms Xs H) (S : StAt H d c t) (k : Kp d c H H') : GX.TQ Ms Xs H' := by
  obtain ⟨cs, ec, r⟩ := S.cells
  exact h.keep (fun b ps hb => k _ _ (ne_of hb S.dict (fun z => nomatch z)) (ne_of hb ec (fun z => nomatch z)) hb)
    (fun b c' P hb => k _ _ (ne_of hb S.dict (fun z => by unfold GX.CodeG at z; cases z)) (ne_of hb ec (fun z => by unfold GX.CodeG at z; cases z)) hb)
    (fun b c' q hb => k _ _ (ne_of hb S.dict (fun z => by unfold LamX.CodeO at z; cases z)) (ne_of hb ec (fun z => by unfold LamX.CodeO at z; cases z)) hb)

/-! ### a deed that moves: what it is made of -/
structure MvP (dd : Deed) (L : List V) (kd o : Str) (g : Spt) (a b : Int) : Prop where
  a0 : atI L 0 = some (.str kd)
  a1 : atI L 1 = some (.str o)
  p2 : atI L (-2) = some (.int a)
  p1 : atI L (-1) = some (.int b)
  nt : kd ≠ "tell"
  kin : (kd = "lade" ∧ atI L 2 = some (.str (txtOf g))) ∨ (kd = "sell" ∧ g = .sold) ∨ (kd = "back" ∧ g = .back)
  w : ∀ num W, (doF num dd W).1 = caW W o g (AskS a b)
  s : ∀ num W, (doF num dd W).2.1 = canon fun n => AskS a b n ∧ ¬ (W n = some (.ly o) ∧ AskS a b n)
  bd : ∀ ns hs m, DeedIn ns hs m dd → o ∈ hs ∧ 0 ≤ a ∧ a ≤ b ∧ b ≤ 2 * m + 3
theorem mv_of {H : Hp} {D : Addr} {dd : Deed} (h : DeedAt H D dd) (hp : isPack dd = false) : (∃ L kd o g a b, H D = some (.tup L) ∧ MvP dd L kd o g a b) ∨ ∃ y x ts, dd = .tell y x ts := by
  cases dd with
  | pack => cases hp
  | lade o t n a b => exact .inl ⟨_, "lade", o, .ly t, a, b, h, ⟨rfl, rfl, rfl, rfl, by decide +kernel, .inl ⟨rfl, rfl⟩, fun _ _ => rfl, fun _ _ => rfl, fun ns hs m hd => ⟨hd.2.1, hd.2.2.2⟩⟩⟩
  | sell y n a b => exact .inl ⟨_, "sell", y, .sold, a, b, h, ⟨rfl, rfl, rfl, rfl, by decide +kernel, .inr (.inl ⟨rfl, rfl⟩), fun _ _ => rfl, fun _ _ => rfl, fun ns hs m hd => hd.2⟩⟩
  | back y n a b => exact .inl ⟨_, "back", y, .back, a, b, h, ⟨rfl, rfl, rfl, rfl, by decide +kernel, .inr (.inr ⟨rfl, rfl⟩), fun _ _ => rfl, fun _ _ => rfl, fun ns hs m hd => hd.2⟩⟩
  | tell y n ts => exact .inr ⟨y, n, ts, rfl⟩
theorem txF_ca {W : Whr} {o : Str} {g : Spt} {p : Int → Prop} (n : Int) : (W n = some (.ly o) ∧ p n → txF (caW W o g p) n = some (txtOf g)) ∧ (¬ (W n = some (.ly o) ∧ p n) → txF (caW W o g p) n = txF W n) := by
  constructor
  · intro h; unfold txF caW; rw [if_pos h]; rfl
  · intro h; unfold txF caW; rw [if_neg h]
theorem txF_te {W : Whr} {h : Str} {num : Int} {p : Int → Prop} (n : Int) : (FndP W p n → txF (teW W h num p) n = some h) ∧ (W n = some (.ly h) ∧ ¬ p n → txF (teW W h num p) n = some ("lacking!" : Str)) ∧ (¬ FndP W p n → ¬ (W n = some (.ly h) ∧ ¬ p n) → txF (teW W h num p) n = txF W n) := by
  refine ⟨fun z => ?_, fun z => ?_, fun z1 z2 => ?_⟩
  · unfold txF teW; rw [if_pos z]; rfl
  · have : ¬ FndP W p n := fun y => z.2 y.2
    unfold txF teW; rw [if_neg this, if_pos z]; rfl
  · unfold txF teW; rw [if_neg z1, if_neg z2]
theorem caW_cong {W : Whr} {o : Str} {g : Spt} {p q : Int → Prop} (h : ∀ n, W n = some (.ly o) → (p n ↔ q n)) : caW W o g p = caW W o g q := by
  funext n
  unfold caW
  by_cases c : W n = some (.ly o)
  · rw [propext (h n c)]
  · rw [if_neg fun z => c z.1, if_neg fun z => c z.1]
theorem ca_dom {W : Whr} {o : Str} {g : Spt} {p : Int → Prop} {n : Int} (h : caW W o g p n ≠ none) : W n ≠ none := by
  unfold caW at h
  split at h
  · rename_i c; rw [c.1]; exact fun z => nomatch z
  · exact h
theorem txF_dom {W : Whr} {n : Int} {t : Str} (h : txF W n = some t) : W n ≠ none := fun z => by unfold txF at h; rw [z] at h; cases h
/-- what get tells, with the empty text for nothing -/
theorem txF_get (W : Whr) (n : Int) : ∃ u : Str, ((txF W n).map V.str).getD (.str "") = .str u ∧ (∀ h, Ltr h → (u = h ↔ W n = some (.ly h))) ∧ (LtrW W → (u = "lacking!" ↔ ∃ k, W n = some (.lk k))) := by
  cases e : txF W n with
  | none => exact ⟨_, rfl, fun h hl => ⟨fun z => absurd z.symm hl.ne0, fun z => by rw [← txF_ly hl, e] at z; cases z⟩, fun hW => ⟨fun z => absurd z (by decide +kernel), fun z => by rw [← txF_lk hW, e] at z; cases z⟩⟩
  | some t => exact ⟨t, rfl, fun h hl => by rw [← txF_ly hl, e]; exact ⟨fun z => by rw [z], fun z => Option.some.inj z⟩, fun hW => by rw [← txF_lk hW, e]; exact ⟨fun z => by rw [z], fun z => Option.some.inj z⟩⟩
open Classical in
/-- what lacks and is found -/
noncomputable def fdW (W : Whr) (h : Str) (p : Int → Prop) : Whr := fun n => if FndP W p n then some (.ly h) else W n
theorem txF_fd {W : Whr} {h : Str} {p : Int → Prop} (n : Int) : (FndP W p n → txF (fdW W h p) n = some h) ∧ (¬ FndP W p n → txF (fdW W h p) n = txF W n) := by
  constructor
  · intro z; unfold txF fdW; rw [if_pos z]; rfl
  · intro z; unfold txF fdW; rw [if_neg z]
theorem fd_dom {W : Whr} {h : Str} {p : Int → Prop} {n : Int} (e : fdW W h p n ≠ none) : W n ≠ none := by
  unfold fdW at e
  split at e
  · rename_i c; obtain ⟨⟨k, c⟩, _⟩ := c; rw [c]; exact fun z => nomatch z
  · exact e
theorem WD.list {kvs : List (L2.Key × V)} {T : Int → Option Str} (h : WD kvs T) : ∃ zs : List (Int × Str), kvs = zs.map kvS ∧ ∀ n t, (n, t) ∈ zs ↔ T n = some t := by
  have : ∀ l : List (L2.Key × V), (∀ e ∈ l, ∃ n t, e = ((.inl n, .str t) : L2.Key × V)) → ∃ zs : List (Int × Str), l = zs.map kvS := fun l => by
    induction l with
    | nil => intro _; exact ⟨[], rfl⟩
    | cons e r ih =>
      intro hh
      obtain ⟨zs, e1⟩ := ih fun x hx => hh x (List.mem_cons_of_mem _ hx)
      obtain ⟨n, t, e2⟩ := hh e (List.mem_cons_self ..)
      exact ⟨(n, t) :: zs, by rw [List.map_cons, ← e1, e2]; rfl⟩
  obtain ⟨zs, rfl⟩ := this kvs h.key
  refine ⟨zs, rfl, fun n t => ?_⟩
  rw [← h.mem, List.mem_map]
  constructor
  · exact fun z => ⟨_, z, rfl⟩
  · rintro ⟨⟨n', t'⟩, z, e⟩
    cases e
    exact z
theorem inV_str2 {u x y : Str} : inV (.str u) [.str x, .str y] = true ↔ u = x ∨ u = y := by
  unfold inV
  simp [eqV]
  exact ⟨fun h => h.elim (fun z => .inl z.symm) fun z => .inr z.symm, fun h => h.elim (fun z => .inl z.symm) fun z => .inr z.symm⟩
theorem inV_ints {n : Int} {xs : List Int} : inV (.int n) (xs.map V.int) = true ↔ n ∈ xs := by
  unfold inV
  rw [List.any_eq_true]
  constructor
  · rintro ⟨y, hy, e⟩
    obtain ⟨k, hk, rfl⟩ := List.mem_map.mp hy
    have : k = n := by simpa [eqV] using e
    exact this ▸ hk
  · intro h
    exact ⟨_, List.mem_map.mpr ⟨n, h, rfl⟩, by simp [eqV]⟩

/-! ### pages as data -/
def pageD (p : Page) : PyData := .tuple [.int p.day, .int p.num, deedD p.deed]
theorem Thg.page {cs : List Addr} {H : Hp} {v : V} {p : Page} (h : Thg cs H v (pageD p)) : PgAt H v p := by
  obtain ⟨T, xs, rfl, eT, h1⟩ := h.tuple
  obtain ⟨x1, w1, rfl, g1, h2⟩ := h1.inv
  obtain ⟨x2, w2, rfl, g2, h3⟩ := h2.inv
  obtain ⟨x3, w3, rfl, g3, h4⟩ := h3.inv
  obtain ⟨D, rfl, hD⟩ := g3.deed
  rw [h4.inv0, g1.inv_int, g2.inv_int] at eT
  exact ⟨T, D, rfl, eT, hD⟩
theorem ThgL.pages {cs : List Addr} {H : Hp} {us : List V} {ps : List Page} (h : ThgL cs H us (ps.map pageD)) : PgL H us ps := by
  refine ⟨by have := h.1; rwa [List.length_map] at this, fun i v p e1 e2 => ?_⟩
  obtain ⟨p', e3, h3⟩ := h.atM e1
  rw [e2] at e3
  cases e3
  exact h3.page

/-! ### _law_of -/
theorem prs_unfrz {H : Hp} {w : Addr} {o : Obj} {u : HO} {us : List V} {ps : List (Int × Int)} (h : Prs H us ps) (e : H w = some (.frz o u)) : Prs (L2.upd H w u) us ps := ⟨h.1, fun i p ep => let ⟨a, e1, e2⟩ := h.2 i p ep; ⟨a, e1, by
  have : a ≠ w := fun y => by rw [y, e] at e2; cases e2
  rw [upd_ne this]; exact e2⟩⟩
def spLOf : Sp := fun vs H Q _ => ∃ (w : Addr) (t : Str) (kvs : List (L2.Key × V)) (T : Int → Option Str), vs = [.ref w, .str t] ∧ H w = some (.dK kvs) ∧ WD kvs T ∧ (∀ n t, T n = some t → 0 ≤ n ∧ n < 20) ∧
  TellS (fun n => T n = some t) 20 H Q
abbrev sLOf : Stmt := topS 39
theorem scLOf : FnScope ["_law_where", "_law_word", "_law_case"] ["_law_where", "_law_word"] (defScope sLOf) := ⟨rfl, rfl, rfl, by decide +kernel, rfl, by decide +kernel, by decide +kernel⟩
section
variable {K : PySem.W.Frag} {mg : Str → Option Value} {P : Program} {w : World} {base : Heap}
theorem ok_LOf {f : Addr} {fd : FuncData} (F : Fun K "_law_of" "_law_of" sLOf f fd) (C__law_set : Cal P w K mg base 1 "_law_set" ["_law_numbers_here"] spLSetN) : FnOk P w K mg base CX0 2 f fd ["_law_where", "_law_word"] spLOf := by
  refine F.ok scLOf (fun vs H Q E h => ?_) (fun cdv A outer s H vs Q E hr h => ?_)
  · obtain ⟨w0, t, kvs, T, rfl, _⟩ := h
    rfl
  · obtain ⟨w0, t, kvs, T, rfl, ew, hw, hb, q⟩ := h
    refine ⟨_, pss_one (ps_lock (ps_ret (pe_own C__law_set hr (by rfl) (pa_cons (pe_lc (own := [("_law_case", 2)]) (g := (gName 2)) (tt := (tTest (tOp (rEq) (tDGet (tVar 0) (tVar 2)) (tVar 1)))) (te := (tVar 2)) rfl scLOf.nd (pi_keys (pv 0)) (blkOk_by (own := [("_law_case", 2)]) (N := ["_law_where", "_law_word", "_law_case"]) (sc := defScope sLOf) (by decide +kernel)) (fun _ _ _ _ _ => (pg_name (i := 2) scLOf.nd rfl (.inl rfl))) (fun _ _ _ _ _ => (pts_one (pt_cmpR op_eq (pe_dget (hu_of hr) (pv 0) (pv 2) (fun _ _ => rfl)) (pv 1) (nomark _)))) (fun _ _ _ _ _ => (pv 2))) pa_nil)))), ?_⟩
    have hkl : kvs.length ≤ 20 := hw.few fun n t e => hb n t e
    obtain ⟨zs, rfl, hzs⟩ := hw.list
    refine ⟨w0, _, ew, True.intro, fun od => ?_⟩
    have ewf := upd_same (H := H) (a := w0) (o := .frz od (.dK (zs.map kvS)))
    have sf : ∀ a o', a ≠ w0 → H a = some o' → upd H w0 (.frz od (.dK (zs.map kvS))) a = some o' := fun a o' n e => by rw [upd_ne n]; exact e
    have nf : ∀ a, upd H w0 (.frz od (.dK (zs.map kvS))) a = none → H a = none := fun a e => by
      by_cases c : a = w0
      · rw [c, upd_same] at e; cases e
      · rw [upd_ne c] at e; exact e
    revert ewf sf nf
    generalize upd H w0 (.frz od (.dK (zs.map kvS))) = Hf
    intro ewf sf nf
    refine ⟨_, rfl, w0, od, rfl, .inl ⟨_, ewf, fun D2 nD2 => lc_sel zs (fun z => decide (z.2 = t)) (fun z => PyData.int z.1) walk_keys [] nD2 (by rw [List.length_map]) (by omega) (fun H' s' => s' _ _ ewf) (fun i v z H' H'' Kt Kn ez sm hws hy kt kn => ?_) (fun H' ws s' eD2 hws => ?_)⟩⟩
    · obtain ⟨rfl, k, v', ek, rfl⟩ := hy
      rw [List.getElem?_map, ez] at ek
      cases ek
      have hm : T z.1 = some z.2 := (hzs z.1 z.2).mp (List.mem_of_getElem? ez)
      have hg := hw.dget (H := H'') (a := w0) (.inr ⟨od, sm _ _ ewf⟩) z.1
      rw [hm] at hg
      refine ⟨rfl, _, rfl, _, rfl, w0, .str z.2, rfl, hg, _, rfl, rfl, _, rfl, ite2 (fun c => ?_) (fun c => ?_)⟩
      · have c : z.2 = t := V.str.inj (of_decide_eq_true c)
        exact ⟨_, rfl, kt (decide_eq_true c) _ _ (Same.refl _) (.int _)⟩
      · have c : ¬ z.2 = t := fun e => c (decide_eq_true (congrArg V.str e))
        exact kn (decide_eq_false c) _ (Same.refl _)
    · have hfl := List.length_filter_le (fun z : Int × Str => decide (z.2 = t)) zs
      rw [show ((zs.filter fun z => decide (z.2 = t)).map fun z => PyData.int z.1) = (((zs.filter fun z => decide (z.2 = t)).map (·.1)).map PyData.int) by rw [List.map_map]; rfl] at hws
      obtain rfl := hws.ints
      rw [List.length_map] at hkl
      refine ⟨D2, _, rfl, eD2, by rw [List.length_map]; omega, fun l rs Hg nl hls htl hlen sg => ?_⟩
      have ewg := sg _ _ (s' _ _ ewf)
      refine ⟨ewg, ?_⟩
      have nlH : H l = none := nf l (s'.free nl)
      refine q l rs _ nlH ?_ (htl.cong fun n => ?_) (by rw [List.length_map] at hlen; omega) fun a o e => ?_
      · obtain ⟨us, el, hus⟩ := hls
        exact ⟨us, by rw [upd_ne (fun z => by rw [z, ew] at nlH; cases nlH)]; exact el, prs_unfrz hus ewg⟩
      · rw [List.mem_map]
        constructor
        · rintro ⟨z, hz, rfl⟩
          obtain ⟨h1, h2⟩ := List.mem_filter.mp hz
          rw [(hzs z.1 z.2).mp h1, of_decide_eq_true h2]
        · intro h
          exact ⟨(n, t), List.mem_filter.mpr ⟨(hzs n t).mpr h, decide_eq_true rfl⟩, rfl⟩
      · by_cases c : a = w0
        · rw [c] at e ⊢
          rw [upd_same, ← ew]; exact e
        · rw [upd_ne c]
          exact sg _ _ (s' _ _ (sf _ _ c e))
end

/-! ### _law_stands -/
abbrev rCatS : R2 := fun x y H Q => ∃ i j, x = V.str i ∧ y = V.str j ∧ i.length + j.length ≤ sizeLine ∧ Q (V.str (i ++ j)) H
def wds2 : List Str := ["lacking", "sold"]
theorem wds2_at : ∀ w ∈ wds2, w ∈ wds3 ∧ w.length ≤ 10 := by
  intro w hw
  have h : ∀ w ∈ wds2, w ∈ wds3 ∧ w.length ≤ 10 := by decide +kernel
  exact h w hw
/-- the rows that the law makes -/
noncomputable def rowH (W : Whr) (x : Str) (h : Str) : Row3 := (h, x, canon fun n => txF W n = some h)
noncomputable def rowW (W : Whr) (x : Str) (w : Str) : Row3 := (x, w, canon fun n => txF W n = some (w ++ "!"))
def fullR (r : Row3) : Bool := !r.2.2.isEmpty
theorem txF_wd {W : Whr} (hW : LtrW W) {w : Str} (hw : w ∈ wds2) (n : Int) : txF W n = some (w ++ "!") ↔ AtWd W w n := by
  unfold txF AtWd
  cases e : W n with
  | none => exact ⟨(fun z => nomatch z), (fun ⟨_, _, z⟩ => nomatch z)⟩
  | some s =>
    have key : ∀ s, (∀ h, s = Spt.ly h → Ltr h) → (txtOf s = w ++ "!" ↔ wdOf s = w) := fun s hl => by
      have hw2 : w = "lacking" ∨ w = "sold" := by simpa [wds2] using hw
      cases s with
      | ly y =>
        constructor
        · intro z
          have hy := hl y rfl
          rcases hw2 with rfl | rfl
          · exact absurd (show y = "lacking!" from z.trans (by decide +kernel)) hy.ne3
          · exact absurd (show y = "sold!" from z.trans (by decide +kernel)) hy.ne1
        · intro z
          rcases hw2 with rfl | rfl
          · exact absurd (show ("lying" : Str) = "lacking" from z) (by decide +kernel)
          · exact absurd (show ("lying" : Str) = "sold" from z) (by decide +kernel)
      | sold => rcases hw2 with rfl | rfl <;> decide +kernel
      | back => rcases hw2 with rfl | rfl <;> decide +kernel
      | lk k =>
        show (("lacking!" : Str) = w ++ "!" ↔ ("lacking" : Str) = w)
        rcases hw2 with rfl | rfl <;> decide +kernel
    have k2 := key s fun h z => hW n h (by rw [e, z])
    constructor
    · intro z
      exact ⟨s, k2.mp (Option.some.inj z), rfl⟩
    · rintro ⟨s', z1, z2⟩
      cases z2
      exact congrArg some (k2.mpr z1)
theorem ly_rows {W : Whr} {x : Str} {hs ys : List Str} (hp : ys.Perm hs) (hst : sortedS ys = true) (hn : NamesOk hs) (hb : ∀ n, W n ≠ none → 0 ≤ n ∧ n < 20) (hh : ∀ n h, W n = some (.ly h) → h ∈ hs) : LyR [(x, W)] ((ys.map (rowH W x)).filter fullR) := by
  have told : ∀ h ∈ hs, Told (SetAt W (.ly h)) (rowH W x h).2.2 := fun h hm => by
    show Told _ (canon _)
    refine (told_sup fun n hn' => ?_).cong fun n => txF_ly (hn.ltr h hm)
    have := hb n fun z => by unfold txF at hn'; rw [z] at hn'; cases hn'
    omega
  constructor
  · intro r
    rw [List.mem_filter, List.mem_map]
    constructor
    · rintro ⟨⟨h, hm, rfl⟩, hf⟩
      refine ⟨_, List.mem_singleton.mpr rfl, rfl, told h (hp.mem_iff.mp hm), fun z => ?_⟩
      unfold fullR at hf
      rw [z] at hf
      cases hf
    · rintro ⟨e, he, e1, ht, hne⟩
      rw [List.mem_singleton.mp he] at e1 ht
      obtain ⟨h, y, rs⟩ := r
      have e1 : y = x := e1
      have ht : Told (SetAt W (.ly h)) rs := ht
      have hne : rs ≠ [] := hne
      have hm : h ∈ hs := by
        cases rs with
        | nil => exact absurd rfl hne
        | cons p q =>
          obtain ⟨lo, hr⟩ := ht.ris
          exact hh p.1 h ((ht.same p.1).mp ⟨p, List.mem_cons_self .., Int.le_refl _, hr.2.1⟩)
      have e2 : rs = (rowH W x h).2.2 := ht.one (told h hm) fun _ => Iff.rfl
      refine ⟨⟨h, hp.mem_iff.mpr hm, by rw [e1, e2]; rfl⟩, ?_⟩
      unfold fullR
      cases rs with
      | nil => exact absurd rfl hne
      | cons p q => rfl
  · refine List.Pairwise.sublist List.filter_sublist (List.pairwise_map.mpr ?_)
    exact (sorted_strict hst (hp.nodup_iff.mpr hn.1)).imp fun h => kn_up h x x
theorem en_rows {W : Whr} {x : Str} (hW : LtrW W) (hb : ∀ n, W n ≠ none → 0 ≤ n ∧ n < 20) (nb : ∀ n, W n ≠ some .back) : EnR [(x, W)] ((wds2.map (rowW W x)).filter fullR) := by
  have told : ∀ w ∈ wds2, Told (AtWd W w) (rowW W x w).2.2 := fun w hm => by
    show Told _ (canon _)
    refine (told_sup fun n hn' => ?_).cong fun n => txF_wd hW hm n
    have := hb n fun z => by unfold txF at hn'; rw [z] at hn'; cases hn'
    omega
  constructor
  · intro r
    rw [List.mem_filter, List.mem_map]
    constructor
    · rintro ⟨⟨w, hm, rfl⟩, hf⟩
      refine ⟨_, List.mem_singleton.mpr rfl, rfl, (wds2_at w hm).1, told w hm, fun z => ?_⟩
      unfold fullR at hf
      rw [z] at hf
      cases hf
    · rintro ⟨e, he, e1, hw, ht, hne⟩
      rw [List.mem_singleton.mp he] at e1 ht
      obtain ⟨y, w, rs⟩ := r
      have e1 : y = x := e1
      have ht : Told (AtWd W w) rs := ht
      have hne : rs ≠ [] := hne
      have hw : w ∈ wds3 := hw
      have hm : w ∈ wds2 := by
        have h3 : w = "back" ∨ w = "lacking" ∨ w = "sold" := by simpa [wds3] using hw
        rcases h3 with rfl | rfl | rfl
        · cases rs with
          | nil => exact absurd rfl hne
          | cons p q =>
            obtain ⟨lo, hr⟩ := ht.ris
            obtain ⟨sp, z1, z2⟩ := (ht.same p.1).mp ⟨p, List.mem_cons_self .., Int.le_refl _, hr.2.1⟩
            cases sp with
            | ly h => exact absurd (show ("lying" : Str) = "back" from z1) (by decide +kernel)
            | sold => exact absurd (show ("sold" : Str) = "back" from z1) (by decide +kernel)
            | back => exact absurd z2 (nb _)
            | lk k => exact absurd (show ("lacking" : Str) = "back" from z1) (by decide +kernel)
        · simp [wds2]
        · simp [wds2]
      have e2 : rs = (rowW W x w).2.2 := ht.one (told w hm) fun _ => Iff.rfl
      refine ⟨⟨w, hm, by rw [e1, e2]; rfl⟩, ?_⟩
      unfold fullR
      cases rs with
      | nil => exact absurd rfl hne
      | cons p q => rfl
  · refine List.Pairwise.sublist List.filter_sublist (List.pairwise_map.mpr ?_)
    refine List.pairwise_cons.mpr ⟨fun w hw => ?_, List.pairwise_singleton ..⟩
    rw [List.mem_singleton.mp hw]
    exact kw_up x (by show ("lacking" : Str).cps.toList < ("sold" : Str).cps.toList; decide +kernel)
def spLStands (K : PySem.W.Frag) : Sp := fun vs H Q _ => ∃ (F w ho : Addr) (x : Str) (hs : List Str) (W : Whr) (kvs : List (L2.Key × V)) (la ea : List Row3) (d3 d4 : PyData), vs = [.ref F, .ref w, .str x, .ref ho] ∧ Thg [] H (.ref F) (.tuple [.list (la.map row3D), .list (ea.map row3D), d3, d4]) ∧ LyR [(x, W)] la ∧ EnR [(x, W)] ea ∧ Sm 4 (.list (la.map row3D)) ∧ Sm 4 (.list (ea.map row3D)) ∧ H w = some (.dK kvs) ∧ WD kvs (txF W) ∧ LtrW W ∧ (∀ n, W n ≠ none → 0 ≤ n ∧ n < 20) ∧ (∀ n h, W n = some (.ly h) → h ∈ hs) ∧ (∀ n, W n ≠ some .back) ∧ H ho = some (.lst (hs.map V.str)) ∧ NamesOk hs ∧ hs.length = 3 ∧
  ∀ H', Same H H' → Q (.bl true) H'
abbrev sLStands : Stmt := topS 40
theorem scLStands : FnScope ["_law_found", "_law_where", "_law_name", "_law_holders", "_law_due", "_law_ends", "_law_holder", "_law_word", "_law_row"] ["_law_found", "_law_where", "_law_name", "_law_holders"] (defScope sLStands) := ⟨rfl, rfl, rfl, by decide +kernel, rfl, by decide +kernel, by decide +kernel⟩
section
variable {K : PySem.W.Frag} {mg : Str → Option Value} {P : Program} {w : World} {base : Heap}
theorem ok_LStands {f : Addr} {fd : FuncData} (F : Fun K "_law_stands" "_law_stands" sLStands f fd) (C__law_of : Cal P w K mg base 2 "_law_of" ["_law_where", "_law_word"] spLOf) (C__law_same : Cal P w K mg base 5 "_law_same" ["_law_found", "_law_due"] (spSame 4)) (m_sorted : mg "sorted" = none) : FnOk P w K mg base CX0 7 f fd ["_law_found", "_law_where", "_law_name", "_law_holders"] (spLStands K) := by
  refine F.ok scLStands (fun vs H Q E h => ?_) (fun cdv A outer s H vs Q E hr h => ?_)
  · obtain ⟨F, w0, ho, x, hs, W, kvs, la, ea, d3, d4, rfl, _⟩ := h
    rfl
  · obtain ⟨F, w0, ho, x, hs, W, kvs, la, ea, d3, d4, rfl, hF, hLy, hEn, hs1, hs2, ew, hw, hW, hb, hh, hnb, eho, hn, hl3, q⟩ := h
    refine ⟨_, pss_cons (ps_setLc (i := 4) (own := [("_law_holder", 6)]) (g := (gName 6)) (tt := tYes) (te := (tTup (tCons (tVar 6) (tCons (tVar 2) (tCons (tCall spLOf [] E0 (tCons (tVar 1) (tCons (tVar 6) tNil))) tNil))))) rfl scLStands.nd rfl rfl (sw_true rfl rfl rfl (by decide +kernel)) (pi_list (pe_callB cr_sortedS (by rfl) m_sorted (by decide +kernel) (pa_cons (pv 3) pa_nil))) (blkOk_by (own := [("_law_holder", 6)]) (N := ["_law_found", "_law_where", "_law_name", "_law_holders", "_law_due", "_law_ends", "_law_holder", "_law_word", "_law_row"]) (sc := defScope sLStands) (by decide +kernel)) (fun _ _ _ _ _ => (pg_name (i := 6) scLStands.nd rfl (.inl rfl))) (fun _ _ _ _ _ => pts_nil) (fun _ _ _ _ _ => (pe_tup (pa_cons (pv 6) (pa_cons (pv 2) (pa_cons (pe_own C__law_of (hr.mono (show 2 ≤ 6 by decide)) (by rfl) (pa_cons (pv 1) (pa_cons (pv 6) pa_nil))) pa_nil))))))
      (pss_cons (ps_setLc (i := 5) (own := [("_law_word", 7)]) (g := (gName 7)) (tt := tYes) (te := (tTup (tCons (tVar 2) (tCons (tVar 7) (tCons (tCall spLOf [] E0 (tCons (tVar 1) (tCons (tOp rCatS (tVar 7) (tC (.str "!"))) tNil))) tNil))))) rfl scLStands.nd rfl rfl (sw_true rfl rfl rfl (by decide +kernel)) (pi_tup (pe_tup (pa_cons pe_str (pa_cons pe_str pa_nil)))) (blkOk_by (own := [("_law_word", 7)]) (N := ["_law_found", "_law_where", "_law_name", "_law_holders", "_law_due", "_law_ends", "_law_holder", "_law_word", "_law_row"]) (sc := defScope sLStands) (by decide +kernel)) (fun _ _ _ _ _ => (pg_name (i := 7) scLStands.nd rfl (.inl rfl))) (fun _ _ _ _ _ => pts_nil) (fun _ _ _ _ _ => (pe_tup (pa_cons (pv 2) (pa_cons (pv 7) (pa_cons (pe_own C__law_of (hr.mono (show 2 ≤ 6 by decide)) (by rfl) (pa_cons (pv 1) (pa_cons (pe_op op_add_str (pv 7) pe_str) pa_nil))) pa_nil))))))
      (pss_cons (ps_if (pt_not (pt_val (pe_own C__law_same (hr.mono (show 5 ≤ 6 by decide)) (by rfl) (pa_cons (pe_ix ix_tup (pv 0) pe_int (fun _ _ => rfl)) (pa_cons (pe_lc (own := [("_law_row", 8)]) (g := (gName 8)) (tt := (tTest (tOp (rNeD K) (tOp (rIxT K) (tVar 8) (tC (.int 2))) (tLst tNil)))) (te := (tVar 8)) rfl scLStands.nd (pi_list (pv 4)) (blkOk_by (own := [("_law_row", 8)]) (N := ["_law_found", "_law_where", "_law_name", "_law_holders", "_law_due", "_law_ends", "_law_holder", "_law_word", "_law_row"]) (sc := defScope sLStands) (by decide +kernel)) (fun _ _ _ _ _ => (pg_name (i := 8) scLStands.nd rfl (.inl rfl))) (fun _ _ _ _ _ => (pts_one (pt_cmpR (op_neD hr.units) (pe_ix ix_tup (pv 8) pe_int (fun _ _ => rfl)) (pe_lst pa_nil) (nomark _)))) (fun _ _ _ _ _ => (pv 8))) pa_nil))))) (pss_one (ps_ret pe_bl))
        pss_nil)
      (pss_one (ps_ret (pe_own C__law_same (hr.mono (show 5 ≤ 6 by decide)) (by rfl) (pa_cons (pe_ix ix_tup (pv 0) pe_int (fun _ _ => rfl)) (pa_cons (pe_lc (own := [("_law_row", 8)]) (g := (gName 8)) (tt := (tTest (tOp (rNeD K) (tOp (rIxT K) (tVar 8) (tC (.int 2))) (tLst tNil)))) (te := (tVar 8)) rfl scLStands.nd (pi_list (pv 5)) (blkOk_by (own := [("_law_row", 8)]) (N := ["_law_found", "_law_where", "_law_name", "_law_holders", "_law_due", "_law_ends", "_law_holder", "_law_word", "_law_row"]) (sc := defScope sLStands) (by decide +kernel)) (fun _ _ _ _ _ => (pg_name (i := 8) scLStands.nd rfl (.inl rfl))) (fun _ _ _ _ _ => (pts_one (pt_cmpR (op_neD hr.units) (pe_ix ix_tup (pv 8) pe_int (fun _ _ => rfl)) (pe_lst pa_nil) (nomark _)))) (fun _ _ _ _ _ => (pv 8))) pa_nil))))))), ?_⟩
    have hbt : ∀ n t, txF W n = some t → 0 ≤ n ∧ n < 20 := fun n t e => hb n (txF_dom e)
    refine ⟨_, rfl, ho, hs, rfl, SqL.of eho, by omega, fun ys p hperm hsort np => ⟨p, rfl, ⟨_, SqL.of upd_same⟩, fun D1 nD1 => ?_⟩⟩
    have sp := same_upd (o := .lst (ys.map V.str)) np
    have ep := upd_same (H := H) (a := p) (o := .lst (ys.map V.str))
    revert sp ep nD1
    generalize upd H p (.lst (ys.map V.str)) = H1
    intro nD1 sp ep
    have hyl : ys.length = 3 := by rw [hperm.length_eq, hl3]
    refine lc_sel ys (fun _ => true) (fun h => row3D (rowH W x h)) walk_list [] nD1 (by rw [List.length_map]) (by rw [List.length_map]; omega) (fun H' s' => SqL.of (s' _ _ ep)) (fun i v h H' H'' Kt Kn eh sm hws hy kt kn => ?_) (fun H2 ws s2 eD1 hws => ?_)
    · obtain ⟨rfl, hv⟩ := hy
      rw [List.getElem?_map, eh] at hv
      cases hv
      refine ⟨rfl, iteT (B := True) ⟨_, rfl, _, rfl, _, rfl, _, rfl, w0, h, kvs, _, rfl, sm _ _ (sp _ _ ew), hw, hbt, fun l rs Hg nl hls htl hlen sg => ⟨by show 3 ≤ sizeLine; decide, fun T nT => ?_⟩⟩⟩
      have sT := same_upd (o := .tup [V.str h, .str x, .ref l]) nT
      refine kt rfl _ _ (sg.trans sT) ?_
      obtain ⟨us, el, hus⟩ := hls
      obtain ⟨ws0, eD⟩ := hws
      have e2 : rs = canon fun n => txF W n = some h := htl.canon
      rw [e2] at hus
      exact ThgL.tup (.cons (.str _) (.cons (.str _) (.one ((prs_thg (hus.same sT)).lst (sT _ _ el) (fun z => by rw [List.mem_singleton.mp z, eD] at nl; cases nl))))) upd_same
    rw [List.filter_eq_self.mpr (fun _ _ => rfl), show (ys.map fun h => row3D (rowH W x h)) = (ys.map (rowH W x)).map row3D by rw [List.map_map]; rfl] at hws
    have hLy2 := hLy.one (ly_rows hperm hsort hn hb hh)
    have hEn2 := hEn.one (en_rows hW hb hnb)
    have hwsl := hws.1
    rw [List.length_map, List.length_map] at hwsl
    revert hLy2 hwsl hws
    generalize hR1 : ys.map (rowH W x) = R1
    intro hws hLy2 hwsl
    have s02 := sp.trans s2
    refine ⟨by show 2 ≤ sizeLine; decide, fun Tp nTp => ⟨Tp, rfl, ⟨_, .inl (.inl upd_same)⟩, fun D2 nD2 => ?_⟩⟩
    have sTp := same_upd (o := .tup [V.str "lacking", .str "sold"]) nTp
    have eTp := upd_same (H := H2) (a := Tp) (o := .tup [V.str "lacking", .str "sold"])
    revert sTp eTp nD2
    generalize upd H2 Tp (.tup [V.str "lacking", .str "sold"]) = H3
    intro nD2 sTp eTp
    have s03 := s02.trans sTp
    refine lc_sel wds2 (fun _ => true) (fun h => row3D (rowW W x h)) walk_tup [] nD2 rfl (by show 2 ≤ _; decide) (fun H' s' => .inl (.inl (s' _ _ eTp))) (fun i v h H' H'' Kt Kn eh sm hws' hy kt kn => ?_) (fun H4 us s4 eD2 hus2 => ?_)
    · obtain ⟨rfl, hv⟩ := hy
      have hv : (wds2.map V.str)[i]? = some v := hv
      rw [List.getElem?_map, eh] at hv
      cases hv
      obtain ⟨_, hwl⟩ := wds2_at h (List.mem_of_getElem? eh)
      refine ⟨rfl, iteT (B := True) ⟨_, rfl, _, rfl, _, rfl, _, rfl, _, _, rfl, rfl, by rw [sizeLine_eq]; show h.length + 1 ≤ _; omega, w0, h ++ "!", kvs, _, rfl, sm _ _ (s03 _ _ ew), hw, hbt, fun l rs Hg nl hls htl hlen sg => ⟨by show 3 ≤ sizeLine; decide, fun T nT => ?_⟩⟩⟩
      have sT := same_upd (o := .tup [V.str x, .str h, .ref l]) nT
      refine kt rfl _ _ (sg.trans sT) ?_
      obtain ⟨us, el, hus⟩ := hls
      obtain ⟨ws0, eD⟩ := hws'
      have e2 : rs = canon fun n => txF W n = some (h ++ "!") := htl.canon
      rw [e2] at hus
      exact ThgL.tup (.cons (.str _) (.cons (.str _) (.one ((prs_thg (hus.same sT)).lst (sT _ _ el) (fun z => by rw [List.mem_singleton.mp z, eD] at nl; cases nl))))) upd_same
    rw [List.filter_eq_self.mpr (fun _ _ => rfl), show (wds2.map fun h => row3D (rowW W x h)) = (wds2.map (rowW W x)).map row3D by rw [List.map_map]; rfl] at hus2
    have husl := hus2.1
    rw [List.length_map, List.length_map] at husl
    have husl : us.length = 2 := husl
    revert hEn2 hus2
    generalize wds2.map (rowW W x) = R2'
    intro hEn2 hus2
    have s04 := s03.trans s4
    have eD1 := s4 _ _ (sTp _ _ eD1)
    have hws := ((hws.less (cs' := []) (by simp)).same sTp).same s4
    have hus2 := hus2.less (cs' := []) (by simp)
    clear sTp eTp s02 s03 s2 s4 sp ep hsort hperm
    obtain ⟨F', xs, e, eF, hxs⟩ := hF.tuple
    cases e
    obtain ⟨v1, _, rfl, g1, h3⟩ := hxs.inv
    obtain ⟨v2, _, rfl, g2, h4⟩ := h3.inv
    have eF := s04 _ _ eF
    have g1 := g1.same s04
    have g2 := g2.same s04
    refine ⟨_, rfl, F, _, 0, _, rfl, rfl, .inl (.inl eF), atI_nat (j := 0) rfl, _, rfl, D1, rfl, ⟨_, SqL.of eD1⟩, fun D3 nD3 => lc_sel (R1) fullR row3D walk_list [] nD3 (by have := hws.1; rw [List.length_map] at this; exact this.symm) (by omega) (fun H' s' => SqL.of (s' _ _ eD1)) (fun i v r H' H'' Kt Kn er sm hws' hy kt kn => ?_) (fun H5 vs s5 eD3 hvs => ?_)⟩
    · obtain ⟨rfl, hv⟩ := hy
      obtain ⟨r', er', hr⟩ := ((hws.more nD3).same sm).atM hv
      rw [er] at er'
      cases er'
      obtain ⟨T, xs, e, eT, hx⟩ := id hr.tuple
      cases e
      obtain ⟨_, _, rfl, q1, h5⟩ := hx.inv
      obtain ⟨_, _, rfl, q2, h6⟩ := h5.inv
      obtain ⟨_, _, rfl, q3, h7⟩ := h6.inv
      rw [h7.inv0] at eT
      obtain ⟨cc, cs, rfl, ec, _, hcs⟩ := id q3.list
      refine ⟨rfl, _, rfl, T, _, 2, _, rfl, rfl, .inl (.inl eT), rfl, Nat.zero_le _, fun z nz => ?_⟩
      have sz := same_upd (o := .lst []) nz
      refine ⟨_, _, .lst (SqL.of (sz _ _ ec)) (dp_prs (hcs.prs.same sz)), .lst (SqL.of upd_same) .nil, shaped_prs _, shaped_ints [], ?_⟩
      rw [eqv_pr_nil]
      refine ⟨_, rfl, ite2 (fun c => ?_) (fun c => ?_)⟩
      · exact ⟨_, rfl, kt c _ _ sz (hr.same sz)⟩
      · exact kn (Bool.eq_false_iff.mpr c) _ sz
    rw [← hLy2] at hvs
    have e1 := (g1.same s5).datW
    have e2 := ((hvs.less (cs' := []) (by simp)).lst eD3 (fun z => nomatch z)).datW
    refine ⟨_, _, _, rfl, e1, e2, hs1, nb_rows3, fun H6 s6 => ⟨_, rfl, iteF (A := True) ?_⟩⟩
    have s56 := s5.trans s6
    have hus2 := hus2.same s56
    have eD2 := s56 _ _ eD2
    have eF := s56 _ _ eF
    refine ⟨_, rfl, F, _, 1, _, rfl, rfl, .inl (.inl eF), atI_nat (j := 1) rfl, _, rfl, D2, rfl, ⟨_, SqL.of eD2⟩, fun D4 nD4 => lc_sel (R2') fullR row3D walk_list [] nD4 (by have := hus2.1; rw [List.length_map] at this; exact this.symm) (by omega) (fun H' s' => SqL.of (s' _ _ eD2)) (fun i v r H' H'' Kt Kn er sm hws' hy kt kn => ?_) (fun H7 vs2 s7 eD4 hvs2 => ?_)⟩
    · obtain ⟨rfl, hv⟩ := hy
      obtain ⟨r', er', hr⟩ := ((hus2.more nD4).same sm).atM hv
      rw [er] at er'
      cases er'
      obtain ⟨T, xs, e, eT, hx⟩ := id hr.tuple
      cases e
      obtain ⟨_, _, rfl, q1, h5⟩ := hx.inv
      obtain ⟨_, _, rfl, q2, h6⟩ := h5.inv
      obtain ⟨_, _, rfl, q3, h7⟩ := h6.inv
      rw [h7.inv0] at eT
      obtain ⟨cc, cs, rfl, ec, _, hcs⟩ := id q3.list
      refine ⟨rfl, _, rfl, T, _, 2, _, rfl, rfl, .inl (.inl eT), rfl, Nat.zero_le _, fun z nz => ?_⟩
      have sz := same_upd (o := .lst []) nz
      refine ⟨_, _, .lst (SqL.of (sz _ _ ec)) (dp_prs (hcs.prs.same sz)), .lst (SqL.of upd_same) .nil, shaped_prs _, shaped_ints [], ?_⟩
      rw [eqv_pr_nil]
      refine ⟨_, rfl, ite2 (fun c => ?_) (fun c => ?_)⟩
      · exact ⟨_, rfl, kt c _ _ sz (hr.same sz)⟩
      · exact kn (Bool.eq_false_iff.mpr c) _ sz
    rw [← hEn2] at hvs2
    have e3 := ((g2.same s56).same s7).datW
    have e4 := ((hvs2.less (cs' := []) (by simp)).lst eD4 (fun z => nomatch z)).datW
    exact ⟨_, _, _, rfl, e3, e4, hs2, nb_rows3, fun H8 s8 => q _ (((s04.trans s56).trans s7).trans s8)⟩
end

/-! ### _law_told -/
def spLTold : Sp := fun vs H Q _ => ∃ (d c w : Addr) (t m : Int) (h : Str) (kvs : List (L2.Key × V)) (T : Int → Option Str), vs = [.ref d, .ref w, .str h, .int m] ∧ StAt H d c t ∧ t + 200 < 2 ^ 60 ∧ H w = some (.dK kvs) ∧ WD kvs T ∧ (∀ n t, T n = some t → 0 ≤ n ∧ n < 20) ∧ 1 ≤ m ∧ m ≤ 12 ∧ w ≠ d ∧
  ∀ l rs t' H', H l = none → LsA H' l rs → (∃ lo, Ris lo rs) → (∀ n, InS rs n → 0 ≤ n ∧ n < 30) → t ≤ t' → t' ≤ t + 60 → StAt H' d c t' → Kp d c H H' → Q (.ref l) H'
abbrev sLTold : Stmt := topS 41
theorem scLTold : FnScope ["_law_state", "_law_where", "_law_holder", "_law_many", "_law_keep", "_law_more", "_law_cases", "_law_case"] ["_law_state", "_law_where", "_law_holder", "_law_many"] (defScope sLTold) := ⟨rfl, rfl, rfl, by decide +kernel, rfl, by decide +kernel, by decide +kernel⟩
section
variable {K : PySem.W.Frag} {mg : Str → Option Value} {P : Program} {w : World} {base : Heap}
theorem ok_LTold {f : Addr} {fd : FuncData} (F : Fun K "_law_told" "_law_told" sLTold f fd) (C__law_take : Cal P w K mg base 1 "_law_take" ["_law_state", "_law_many"] spTake) (C__law_set : Cal P w K mg base 1 "_law_set" ["_law_numbers_here"] spLSetN) : FnOk P w K mg base CX0 2 f fd ["_law_state", "_law_where", "_law_holder", "_law_many"] spLTold := by
  refine F.ok scLTold (fun vs H Q E h => ?_) (fun cdv A outer s H vs Q E hr h => ?_)
  · obtain ⟨d, c, w0, t, m, h, kvs, T, rfl, _⟩ := h
    rfl
  · obtain ⟨d, c, w0, t, m, h, kvs, T, rfl, hS, ht, ew, hw, hb, hm1, hm2, wd, q⟩ := h
    refine ⟨_, pss_cons (ps_asg (pe_tup (pa_cons (pe_op op_add pe_int (pe_own C__law_take hr (by rfl) (pa_cons (pv 0) (pa_cons pe_int pa_nil)))) (pa_cons (pe_own C__law_take hr (by rfl) (pa_cons (pv 0) (pa_cons pe_int pa_nil))) pa_nil))) (pg_tup rfl (pgs_cons (pg_name (i := 4) scLTold.nd rfl (.inr rfl)) (pgs_cons (pg_name (i := 5) scLTold.nd rfl (.inl rfl)) pgs_nil))))
      (pss_cons (ps_lock (ps_setLc (i := 6) (own := [("_law_case", 7)]) (g := (gName 7)) (tt := (tAnd (tTest (tOp (rEq) (tDGet (tVar 1) (tVar 7)) (tVar 2))) (tTest (tOp (rI0 fun i j => .bl (decide (i < j))) (tCall spTake [] E0 (tCons (tVar 0) (tCons (tOp (rI0 fun i j => .int (i + j)) (tVar 4) (tC (.int 1))) tNil))) (tVar 4))))) (te := (tVar 7)) rfl scLTold.nd rfl rfl (sw_true rfl rfl rfl (by decide +kernel)) (pi_keys (pv 1)) (blkOk_by (own := [("_law_case", 7)]) (N := ["_law_state", "_law_where", "_law_holder", "_law_many", "_law_keep", "_law_more", "_law_cases", "_law_case"]) (sc := defScope sLTold) (by decide +kernel)) (fun _ _ _ _ _ => (pg_name (i := 7) scLTold.nd rfl (.inl rfl))) (fun _ _ _ _ _ => (pts_one (PW.pt (pw_and (pt_cmpR op_eq (pe_dget (hu_of hr) (pv 1) (pv 7) (fun _ _ => rfl)) (pv 2) (nomark _)) (pw_and1 (pt_cmpR op_lt (pe_own C__law_take hr (by rfl) (pa_cons (pv 0) (pa_cons (pe_op op_add (pv 4) pe_int) pa_nil))) (pv 4) (nomark _))))))) (fun _ _ _ _ _ => (pv 7))))
      (Evl.pss_cut (ps_if (pt_cmpR op_gt (pv 5) pe_int (nomark _)) (pss_one (ps_lock (ps_set (i := 6) scLTold.nd rfl (.inl rfl) (pe_op op_cat (pv 6) (pe_lc (own := [("_law_case", 7)]) (g := (gName 7)) (tt := (tAnd (tTest (tOp (rEq) (tDGet (tVar 1) (tVar 7)) (tC (.str "lacking!")))) (tTest (tOp (rEq) (tCall spTake [] E0 (tCons (tVar 0) (tCons (tC (.int 2)) tNil))) (tC (.int 0)))))) (te := (tVar 7)) rfl scLTold.nd (pi_keys (pv 1)) (blkOk_by (own := [("_law_case", 7)]) (N := ["_law_state", "_law_where", "_law_holder", "_law_many", "_law_keep", "_law_more", "_law_cases", "_law_case"]) (sc := defScope sLTold) (by decide +kernel)) (fun _ _ _ _ _ => (pg_name (i := 7) scLTold.nd rfl (.inl rfl))) (fun _ _ _ _ _ => (pts_one (PW.pt (pw_and (pt_cmpR op_eq (pe_dget (hu_of hr) (pv 1) (pv 7) (fun _ _ => rfl)) pe_str (nomark _)) (pw_and1 (pt_cmpR op_eq (pe_own C__law_take hr (by rfl) (pa_cons (pv 0) (pa_cons pe_int pa_nil))) pe_int (nomark _))))))) (fun _ _ _ _ _ => (pv 7)))))))
        pss_nil)
      (Evl.pss_cut (ps_if (pt_cmpR op_eq (pv 5) pe_int (nomark _)) (pss_one (ps_set (i := 6) scLTold.nd rfl (.inl rfl) (pe_op op_cat (pv 6) (pe_lst (pa_cons (pe_own C__law_take hr (by rfl) (pa_cons (pv 0) (pa_cons (pe_op op_add (pv 3) pe_int) pa_nil))) (pa_cons (pe_op op_add (pv 3) pe_int) pa_nil))))))
        pss_nil)
      (pss_one (ps_ret (pe_own C__law_set hr (by rfl) (pa_cons (pv 6) pa_nil))))))), ?_⟩
    have hkl : kvs.length ≤ 20 := hw.few fun n t e => hb n t e
    have wc : w0 ≠ c := fun z => by obtain ⟨_, e, _⟩ := hS.cells; rw [z, e] at ew; cases ew
    refine ⟨_, rfl, d, c, t, 5, rfl, hS, by omega, by decide, by decide, fun r1 H1 r10 r11 hS1 k1 => ⟨1, r1, rfl, rfl, _, rfl, d, c, t + 1, 4, rfl, hS1, by omega, by decide, by decide, fun mo H2 mo0 mo1 hS2 k2 => ⟨by show 2 ≤ sizeLine; decide, fun Tp nTp => ⟨Tp, _, rfl, .inl (.inl upd_same), rfl, _, _, rfl, _, _, rfl, rfl, ?_⟩⟩⟩⟩
    obtain ⟨zs, rfl, hzs⟩ := hw.list
    rw [List.length_map] at hkl
    have sTp := same_upd (o := .tup [V.int (1 + r1), .int mo]) nTp
    have SS := hS2.same sTp
    have k3 : Kp d c H (upd H2 Tp (.tup [V.int (1 + r1), .int mo])) := fun b o b1 b2 e => sTp _ _ (k2 _ _ b1 b2 (k1 _ _ b1 b2 e))
    revert SS k3
    dsimp only
    generalize upd H2 Tp (.tup [V.int (1 + r1), .int mo]) = HH
    intro SS k3
    clear k1 k2 hS1 hS2 sTp nTp
    have ew := k3 _ _ wd wc ew
    refine ⟨w0, _, ew, True.intro, fun od => ?_⟩
    have ewf := upd_same (H := HH) (a := w0) (o := .frz od (.dK (zs.map kvS)))
    have Sf : StAt (upd HH w0 (.frz od (.dK (zs.map kvS)))) d c (t + 1 + 1) := SS.upd wd wc
    have kf : ∀ a o', a ≠ w0 → HH a = some o' → upd HH w0 (.frz od (.dK (zs.map kvS))) a = some o' := fun a o' n e => by rw [upd_ne n]; exact e
    have nf : ∀ a, upd HH w0 (.frz od (.dK (zs.map kvS))) a = none → HH a = none ∧ a ≠ w0 := fun a e => by
      by_cases c : a = w0
      · rw [c, upd_same] at e; cases e
      · rw [upd_ne c] at e; exact ⟨e, c⟩
    revert ewf Sf kf nf
    generalize upd HH w0 (.frz od (.dK (zs.map kvS))) = Hf
    intro ewf Sf kf nf
    refine ⟨_, rfl, w0, od, rfl, .inl ⟨_, ewf, fun D2 nD2 => ?_⟩⟩
    have oD := Sf.off nD2
    have Dw := (nf D2 nD2).2
    refine lc_it (n := (zs.map kvS).length) walk_keys (fun j H' => ∃ (t'' : Int) (ns : List Int), H' D2 = some (.lst (ns.map V.int)) ∧ ns.length ≤ j ∧ (∀ n ∈ ns, 0 ≤ n ∧ n < 30) ∧ (t + 1 + 1) ≤ t'' ∧ t'' ≤ (t + 1 + 1) + j ∧ StAt H' d c t'' ∧ Kp d c Hf H') ⟨(t + 1 + 1), [], upd_same, Nat.le_refl _, (fun _ z => nomatch z), by omega, by omega, Sf.same (same_upd nD2), Kp.same d c (same_upd nD2)⟩ (fun j H' _ hP => by obtain ⟨_, _, _, _, _, _, _, _, k⟩ := hP; exact k _ _ wd wc ewf) (fun j v H' H'' hj hP hy => ?_) (fun H' hP => ?_)
    · have oD := Sf.off nD2
      obtain ⟨t'', ns, eD, hl2, hns, v0, v1, S', k'⟩ := hP
      obtain ⟨rfl, k, v', ek, rfl⟩ := hy
      have hjl : j < (zs.map kvS).length := (List.getElem?_eq_some_iff.mp ek).1
      rw [List.length_map] at hjl
      rw [List.getElem?_map] at ek
      obtain ⟨z, ez, e⟩ := Option.map_eq_some_iff.mp ek
      cases e
      have hm : T z.1 = some z.2 := (hzs z.1 z.2).mp (List.mem_of_getElem? ez)
      have hg := hw.dget (H := H'') (a := w0) (.inr ⟨od, k' _ _ wd wc ewf⟩) z.1
      rw [hm] at hg
      have hzb := hb z.1 z.2 hm
      refine ⟨rfl, _, rfl, _, rfl, w0, .str z.2, rfl, hg, _, rfl, rfl, _, rfl, ite2 (fun c1 => ?_) (fun c1 => ?_)⟩
      · refine ⟨_, rfl, _, rfl, 1 + r1, 1, rfl, rfl, d, c, t'', 1 + r1 + 1, rfl, S', by omega, by omega, by omega, fun r Hg r0 r1' Sg kg => ⟨_, rfl, r, 1 + r1, rfl, rfl, _, rfl, ite2 (fun c2 => ?_) (fun c2 => ?_)⟩⟩
        · skip
          refine ⟨_, rfl, _, kg _ _ oD.1 oD.2 eD, small1000 (by rw [List.length_map]; omega), t'' + 1, ns ++ [z.1], by rw [upd_same, List.map_append]; rfl, by rw [List.length_append]; exact Nat.add_le_add_right hl2 1, fun n hn => ?_, by omega, by omega, Sg.upd oD.1 oD.2, fun b o b1 b2 e' => ?_⟩
          · rcases List.mem_append.mp hn with y | y
            · exact hns n y
            · rw [List.mem_singleton.mp y]; exact ⟨hzb.1, by show z.1 < 30; omega⟩
          · rw [upd_ne (ne_of_none e' nD2)]
            exact kg b o b1 b2 (k' b o b1 b2 e')
        · exact ⟨t'' + 1, ns, kg _ _ oD.1 oD.2 eD, by omega, hns, by omega, by omega, Sg, k'.trans kg⟩
      · exact ⟨t'', ns, eD, by omega, hns, by omega, by omega, S', k'⟩
    obtain ⟨t3, ns, eD, hl2, hns, v0, v1, S3, k4⟩ := hP
    rw [List.length_map] at hl2 v1
    refine ⟨k4 _ _ wd wc ewf, ?_⟩
    have eD := (upd_ne (o := .dK (zs.map kvS)) Dw).trans eD
    have S3 := S3.upd (o := .dK (zs.map kvS)) wd wc
    have k5 : Kp d c H (upd H' w0 (.dK (zs.map kvS))) := fun b o b1 b2 e => by
      by_cases y : b = w0
      · have e := k3 _ _ b1 b2 e
        rw [y] at e ⊢
        rw [upd_same, ← ew]; exact e
      · rw [upd_ne y]
        exact k4 _ _ b1 b2 (kf _ _ y (k3 _ _ b1 b2 e))
    have ew5 := upd_same (H := H') (a := w0) (o := .dK (zs.map kvS))
    revert eD S3 k5 ew5
    generalize upd H' w0 (.dK (zs.map kvS)) = H5
    intro eD S3 k5 ew5
    have D2w : D2 ≠ w0 := Dw
    clear k3 Sf kf nf ewf k4 nD2
    refine ⟨fun σ' Hx => ∃ (t' : Int) (C : Addr) (ns : List Int) (y7 : Option V), σ' = [some (.ref d), some (.ref w0), some (.str h), some (.int m), some (.int (1 + r1)), some (.int mo), some (.ref C), y7] ∧ StAt Hx d c t' ∧ Kp d c H Hx ∧ Hx w0 = some (.dK (zs.map kvS)) ∧ (C ≠ d ∧ C ≠ c) ∧ Hx C = some (.lst (ns.map V.int)) ∧ ns.length ≤ 40 ∧ (∀ n ∈ ns, 0 ≤ n ∧ n < 30) ∧ t ≤ t' ∧ t' ≤ t + 50, ?_, fun σ' Hx hM => ?_⟩
    · refine ⟨_, rfl, mo, 0, rfl, rfl, _, rfl, ite2 (fun c0 => ?_) (fun c0 => ?_)⟩
      rotate_left
      · exact ⟨t3, D2, ns, _, rfl, S3, k5, ew5, oD, eD, by omega, hns, by omega, by omega⟩
      have SS := S3
      have eC := eD
      refine ⟨w0, _, ew5, True.intro, fun od => ?_⟩
      have ewf := upd_same (H := H5) (a := w0) (o := .frz od (.dK (zs.map kvS)))
      have Sf : StAt (upd H5 w0 (.frz od (.dK (zs.map kvS)))) d c t3 := SS.upd wd wc
      have kf : ∀ a o', a ≠ w0 → H5 a = some o' → upd H5 w0 (.frz od (.dK (zs.map kvS))) a = some o' := fun a o' n e => by rw [upd_ne n]; exact e
      have nf : ∀ a, upd H5 w0 (.frz od (.dK (zs.map kvS))) a = none → H5 a = none ∧ a ≠ w0 := fun a e => by
        by_cases c : a = w0
        · rw [c, upd_same] at e; cases e
        · rw [upd_ne c] at e; exact ⟨e, c⟩
      revert ewf Sf kf nf
      generalize upd H5 w0 (.frz od (.dK (zs.map kvS))) = Hf
      intro ewf Sf kf nf
      have eC := kf _ _ D2w eC
      have nsl := hl2
      have hC := hns
      have oC : D2 ≠ d ∧ D2 ≠ c := ⟨(fun z => by rw [z, Sf.dict] at eC; cases eC), oD.2⟩
      refine ⟨_, rfl, _, rfl, w0, od, rfl, .inl ⟨_, ewf, fun D2' nD2 => ?_⟩⟩
      have oD := Sf.off nD2
      have Dw := (nf D2' nD2).2
      refine lc_it (n := (zs.map kvS).length) walk_keys (fun j H' => ∃ (t'' : Int) (ns : List Int), H' D2' = some (.lst (ns.map V.int)) ∧ ns.length ≤ j ∧ (∀ n ∈ ns, 0 ≤ n ∧ n < 30) ∧ t3 ≤ t'' ∧ t'' ≤ t3 + j ∧ StAt H' d c t'' ∧ Kp d c Hf H') ⟨t3, [], upd_same, Nat.le_refl _, (fun _ z => nomatch z), by omega, by omega, Sf.same (same_upd nD2), Kp.same d c (same_upd nD2)⟩ (fun j H' _ hP => by obtain ⟨_, _, _, _, _, _, _, _, k⟩ := hP; exact k _ _ wd wc ewf) (fun j v H' H'' hj hP hy => ?_) (fun H' hP => ?_)
      · skip
        obtain ⟨t'', ns, eD, hl2, hns, v0, v1, S', k'⟩ := hP
        obtain ⟨rfl, k, v', ek, rfl⟩ := hy
        have hjl : j < (zs.map kvS).length := (List.getElem?_eq_some_iff.mp ek).1
        rw [List.length_map] at hjl
        rw [List.getElem?_map] at ek
        obtain ⟨z, ez, e⟩ := Option.map_eq_some_iff.mp ek
        cases e
        have hm : T z.1 = some z.2 := (hzs z.1 z.2).mp (List.mem_of_getElem? ez)
        have hg := hw.dget (H := H'') (a := w0) (.inr ⟨od, k' _ _ wd wc ewf⟩) z.1
        rw [hm] at hg
        have hzb := hb z.1 z.2 hm
        refine ⟨rfl, _, rfl, _, rfl, w0, .str z.2, rfl, hg, rfl, _, rfl, ite2 (fun c1 => ?_) (fun c1 => ?_)⟩
        · refine ⟨_, rfl, d, c, t'', 2, rfl, S', by omega, by decide, by decide, fun r Hg r0 r1' Sg kg => ⟨rfl, _, rfl, ite2 (fun c2 => ?_) (fun c2 => ?_)⟩⟩
          · skip
            refine ⟨_, rfl, _, kg _ _ oD.1 oD.2 eD, small1000 (by rw [List.length_map]; omega), t'' + 1, ns ++ [z.1], by rw [upd_same, List.map_append]; rfl, by rw [List.length_append]; exact Nat.add_le_add_right hl2 1, fun n hn => ?_, by omega, by omega, Sg.upd oD.1 oD.2, fun b o b1 b2 e' => ?_⟩
            · rcases List.mem_append.mp hn with y | y
              · exact hns n y
              · rw [List.mem_singleton.mp y]; exact ⟨hzb.1, by show z.1 < 30; omega⟩
            · rw [upd_ne (ne_of_none e' nD2)]
              exact kg b o b1 b2 (k' b o b1 b2 e')
          · exact ⟨t'' + 1, ns, kg _ _ oD.1 oD.2 eD, by omega, hns, by omega, by omega, Sg, k'.trans kg⟩
        · exact ⟨t'', ns, eD, by omega, hns, by omega, by omega, S', k'⟩
      obtain ⟨t4, ns4, eD4, hl4, hns4, v0', v1', S4, k4⟩ := hP
      rw [List.length_map] at hl4 v1'
      refine ⟨D2, D2', _, _, rfl, rfl, k4 _ _ oC.1 oC.2 eC, eD4, by rw [List.length_map, List.length_map, sizeLine_eq]; omega, fun U nU => ?_⟩
      have sU := same_upd (o := .lst (ns.map V.int ++ ns4.map V.int)) nU
      have ew4 := sU _ _ (k4 _ _ wd wc ewf)
      have Uw : U ≠ w0 := fun z => by rw [z, k4 _ _ wd wc ewf] at nU; cases nU
      refine ⟨ew4, t4, U, ns ++ ns4, _, rfl, (S4.same sU).upd wd wc, fun b o b1 b2 e => ?_, upd_same, S4.off nU, by rw [upd_ne Uw, upd_same, List.map_append], by rw [List.length_append]; omega, fun n hn => (List.mem_append.mp hn).elim (hC n) (hns4 n), by omega, by omega⟩
      by_cases y : b = w0
      · have e := k5 _ _ b1 b2 e
        rw [y] at e ⊢
        rw [upd_same, ← ew5]; exact e
      · rw [upd_ne y]
        exact sU _ _ (k4 _ _ b1 b2 (kf _ _ y (k5 _ _ b1 b2 e)))
    clear eD S3 k5 ew5 hns hl2 v0 v1
    obtain ⟨t4, C, ns, y7, rfl, S4, k4, ew4, oC, eC, hl2, hns, v0, v1⟩ := hM
    refine ⟨fun σ' Hx => ∃ (t' : Int) (C : Addr) (ns : List Int) (y7 : Option V), σ' = [some (.ref d), some (.ref w0), some (.str h), some (.int m), some (.int (1 + r1)), some (.int mo), some (.ref C), y7] ∧ StAt Hx d c t' ∧ Kp d c H Hx ∧ Hx C = some (.lst (ns.map V.int)) ∧ ns.length ≤ 42 ∧ (∀ n ∈ ns, 0 ≤ n ∧ n < 30) ∧ t ≤ t' ∧ t' ≤ t + 60, ?_, fun σ' Hx hM => ?_⟩
    · refine ⟨_, rfl, rfl, _, rfl, ite2 (fun c0 => ?_) (fun c0 => ?_)⟩
      rotate_left
      · exact ⟨t4, C, ns, _, rfl, S4, k4, eC, by omega, hns, by omega, by omega⟩
      refine ⟨_, rfl, _, rfl, _, rfl, m, 3, rfl, rfl, d, c, t4, m + 3, rfl, S4, by omega, by omega, by omega, fun r Hg r0 r1' Sg kg => ⟨_, rfl, m, 9, rfl, rfl, by show 2 ≤ sizeLine; decide, fun l2 nl2 => ?_⟩⟩
      have sl2 := same_upd (o := .lst [V.int r, .int (m + 9)]) nl2
      refine ⟨C, l2, _, _, rfl, rfl, sl2 _ _ (kg _ _ oC.1 oC.2 eC), upd_same, by rw [List.length_map, sizeLine_eq]; show ns.length + 2 ≤ _; omega, fun U nU => ?_⟩
      have sU := same_upd (o := .lst (ns.map V.int ++ [V.int r, .int (m + 9)])) nU
      refine ⟨t4 + 1, U, ns ++ [r, m + 9], _, rfl, (Sg.same sl2).same sU, (k4.trans kg).trans (Kp.same d c (sl2.trans sU)), by rw [upd_same, List.map_append]; rfl, by rw [List.length_append]; show ns.length + 2 ≤ 42; omega, fun n hn => ?_, by omega, by omega⟩
      rcases List.mem_append.mp hn with z | z
      · exact hns n z
      · have : n = r ∨ n = m + 9 := by simpa using z
        omega
    obtain ⟨t5, C, ns, y7, rfl, S5, k5, eC, hl2, hns, v0, v1⟩ := hM
    refine ⟨_, rfl, C, ns, rfl, eC, by omega, fun l rs Hg nl hls htl hlen sg => q l rs t5 Hg (k5.free S5 nl) hls htl.ris (fun n hn => hns n ((htl.same n).mp hn)) v0 v1 (S5.same sg) (k5.trans (Kp.same d c sg))⟩
end

/-! ### rows walked -/
abbrev GxJ {α : Type} (J : It) (a0 : α) (Stp : VK → GX.Stps α) (Fin : VK → α → Hp → Prop) (tc : GX.TC) (g : TG) (tt : TT) (te : Value → TE) (vs : List Nat) (σ : L2.St) (H : Hp) (Q : VK) : Prop := tc σ H fun code H2 => ∃ W : Nat → Nat → α → Hp → Prop, (∃ m, W 0 m a0 H2) ∧ GX.TurnsR (Stp Q) (Fin Q) J g tt (te code) vs σ W
theorem iseq_gx {α : Type} {a0 : α} {Stp : VK → GX.Stps α} {Fin : VK → α → Hp → Prop} {tc : GX.TC} {te : Value → TE} {Q : VK} {K : PySem.W.Frag} {H : Hp} {a : Addr} {xs : List V} {g : TG} {tt : TT} {vs : List Nat} {σ : L2.St} (h : SqH H a xs) (r : ∀ J G, Walk J xs.length G (YAt xs) → (∀ H', GX.NoTab H H' → G H') → GxJ J a0 Stp Fin tc g tt te vs σ H Q) :
    ((∃ xs, SqL K H a xs) ∧ GxJ (Itl K a) a0 Stp Fin tc g tt te vs σ H Q) ∨ ((∃ xs, SqT K H a xs) ∧ GxJ (Itt K a) a0 Stp Fin tc g tt te vs σ H Q) := by
  rcases h with e | e
  · exact .inl ⟨⟨_, SqL.of e⟩, r _ _ walk_list fun H' n => SqL.of (n.lst e)⟩
  · exact .inr ⟨⟨_, .inl (.inl e)⟩, r _ _ walk_tup fun H' n => .inl (.inl (n.tup e))⟩
def inB2 (p : Int × Int) (n : Int) : Bool := decide (p.1 ≤ n) && decide (n ≤ p.2)
theorem inB2_iff {p : Int × Int} {n : Int} : inB2 p n = true ↔ p.1 ≤ n ∧ n ≤ p.2 := by simp [inB2]
def goneB (gs : List (Int × Int)) (n : Int) : Bool := gs.any fun p => inB2 p n
theorem goneB_iff {gs : List (Int × Int)} {n : Int} : goneB gs n = true ↔ InS gs n := by
  unfold goneB
  rw [List.any_eq_true]
  exact ⟨fun ⟨p, h1, h2⟩ => ⟨p, h1, inB2_iff.mp h2⟩, fun ⟨p, h1, h2⟩ => ⟨p, h1, inB2_iff.mpr h2⟩⟩
/-! ### is_in -/
def spIsIn (K : PySem.W.Frag) (Ms : GX.Mq) (Xs : List Addr) (Pg : Addr) : Sp := fun vs H Q _ => ∃ (a : Addr) (gs : List (Int × Int)) (n : Int), vs = [.ref a, .int n] ∧ LsQ H a gs ∧ GX.TQ Ms Xs H ∧ Pg ∈ Ms ∧ ∀ H2, GX.NoTab H H2 → GX.TQ Ms Xs H2 → Q (.bl (goneB gs n)) H2
abbrev sIsIn : Stmt := topS 6
theorem scIsIn : FnScope ["some", "number", "first", "last"] ["some", "number"] (defScope sIsIn) := ⟨rfl, rfl, rfl, by decide +kernel, rfl, by decide +kernel, by decide +kernel⟩
section
variable {K : PySem.W.Frag} {mg : Str → Option Value} {P : Program} {w : World} {base : Heap}
theorem ok_IsIn {Ms : GX.Mq} {Xs : List Addr} {f c Pg : Addr} {oc kV doc pm ct : Value} {od an : Option Addr} {osl : Array (Option Value)} (lk : K.lookup f = some ⟨oc, od, .func (PySem.W.fnOf "is_in" "is_in" (defArgs sIsIn) (defBody sIsIn) (defScope sIsIn) .none kV doc pm an (.ref c) ct), osl⟩) (hcd : PySem.W.codeIn K (.ref c) "is_in" = true) (TG : GxR.TabB base mg c Pg) (m_any : mg "any" = none) : FnOk P w K mg base CX0 4 f (PySem.W.fnOf "is_in" "is_in" (defArgs sIsIn) (defBody sIsIn) (defScope sIsIn) .none kV doc pm an (.ref c) ct) ["some", "number"] (spIsIn K Ms Xs Pg) := by
  refine fn_of lk hcd scIsIn (fun vs H Q E h => ?_) (fun A outer s H vs Q E hr h => ?_)
  · obtain ⟨a, gs, n, rfl, _⟩ := h
    rfl
  · obtain ⟨a, gs, n, rfl, hA, hT, hP, q⟩ := h
    refine ⟨_, PSs.nox (pss_one (ps_ret (GX.pe_anyX (k := 0) (own := [("first", 2), ("last", 3)]) (te := fun code1 => (tChain (rI0 fun i j => .bl (decide (i ≤ j))) (rI0 fun i j => .bl (decide (i ≤ j))) (tVar 2) (tVar 1) (tVar 3))) (g' := (gTup K 2 (gCons (gName 2) (gCons (gName 3) gNil)))) (tt := tYes) hr scIsIn.nd (by rfl) m_any TG.bm (pi_seq (pv 0)) (GX.pc_own (Ms := Ms) (Xs := Xs) TG rfl) (GX.gok_by (own := [("first", 2), ("last", 3)]) (N := ["some", "number", "first", "last"]) (sc := defScope sIsIn) (by decide +kernel)) (fun _ _ _ _ _ r1 gd1 => (pg_tup rfl (pgs_cons (pg_name (i := 2) scIsIn.nd rfl (.inl rfl)) (pgs_cons (pg_name (i := 3) scIsIn.nd rfl (.inl rfl)) pgs_nil)))) (fun _ _ _ _ _ r1 gd1 => pts_nil) (fun _ _ _ code1 _ r1 gd1 => (pe_chain op_le op_le (pv 2) (pv 1) (pv 3)))))), ?_⟩
    obtain ⟨us, eA, pr⟩ := id hA
    have lu := pr.1
    refine ⟨_, rfl, a, rfl, iseq_gx eA fun J G wk hG => ⟨hT, hP, fun H2 c' P' n2 t2 nX eC tG => GX.turns_any wk (fun i => inB2 (gs.getD i (0, 0)) n) (fun Hx => GX.NoTab H2 Hx ∧ GX.TQ Ms Xs Hx) ⟨GX.NoTab.refl _, t2⟩ (fun Hx iv => hG Hx (n2.trans iv.1)) (fun i x Hx Hx' Kt Kn hi iv hy kt _ => ?_) (fun Hx bb iv hb => ?_)⟩⟩
    · obtain ⟨rfl, hx⟩ := hy
      obtain ⟨r, T, er, rfl, eT⟩ := prs_at pr hx
      have e : gs.getD i (0, 0) = r := by rw [List.getD_eq_getElem?_getD, er]; rfl
      rw [e] at kt
      refine ⟨T, _, rfl, .inl (.inl (iv.1.tup (n2.tup eT))), rfl, _, _, rfl, _, _, rfl, rfl, rfl, ?_⟩
      refine ⟨_, rfl, _, rfl, _, _, rfl, rfl, _, rfl, ite2 (fun c1 => ⟨_, rfl, _, _, rfl, rfl, ?_⟩) (fun c1 => ?_)⟩
      · have this : Kt (V.bl (decide (r.1 ≤ n) && decide (n ≤ r.2))) _ := kt _ iv
        rw [c1] at this
        exact this
      · have this : Kt (V.bl (decide (r.1 ≤ n) && decide (n ≤ r.2))) _ := kt _ iv
        rw [Bool.eq_false_iff.mpr c1] at this
        exact this
    · have e : bb = goneB gs n := by
        rw [Bool.eq_iff_iff, hb, goneB, List.any_eq_true]
        constructor
        · rintro ⟨i, hi, z⟩
          have hi' : i < gs.length := by omega
          rw [List.getD_eq_getElem?_getD, List.getElem?_eq_getElem hi'] at z
          exact ⟨_, List.getElem_mem hi', z⟩
        · rintro ⟨r, hr, z⟩
          obtain ⟨i, hi, rfl⟩ := List.getElem_of_mem hr
          refine ⟨i, by omega, ?_⟩
          rw [List.getD_eq_getElem?_getD, List.getElem?_eq_getElem hi]
          exact z
      rw [e]
      exact q Hx (n2.trans iv.1) iv.2
end

/-! ### comprehensions of things chosen, where tables may grow -/
theorem lc_selT {α : Type} {Ms : GX.Mq} {Xs : List Addr} (zs : List α) (p : α → Bool) (e : α → PyData) {J : It} {n : Nat} {G : Hp → Prop} {Y : Nat → Hp → V → Hp → Prop} (w : Walk J n G Y) {g : TG} {tt : TT} {te : TE} {vs : List Nat} {σ : L2.St} {H1 : Hp} {D : Addr} {Qd : Hp → Prop} (cs : List Addr) (nD : H1 D = none) (tq : GX.TQ Ms Xs H1) (hn : zs.length = n) (hz : n ≤ 100000) (hG : ∀ H, GX.NoTab H1 H → G H)
    (turn : ∀ i x z H H' (Kt : V → Hp → Prop) (Kn : Hp → Prop), zs[i]? = some z → GX.NoTab H1 H → GX.TQ Ms Xs H → (∃ ws, H D = some (.lst ws)) → Y i H x H' → (p z = true → ∀ y H4, GX.NoTab H H4 → GX.TQ Ms Xs H4 → Thg (D :: cs) H4 y (e z) → Kt y H4) → (p z = false → ∀ H4, GX.NoTab H H4 → GX.TQ Ms Xs H4 → Kn H4) → g x (wipe σ vs) H' fun σ2 H2 => wipe σ2 vs = wipe σ vs ∧ tt σ2 H2 fun b H3 => if b = true then te σ2 H3 Kt else Kn H3)
    (fin : ∀ H ws, GX.NoTab H1 H → GX.TQ Ms Xs H → H D = some (.lst ws) → ThgL (D :: cs) H ws ((zs.filter p).map e) → Qd H) : LcW J g tt te vs σ D Qd H1 := by
  refine lc_it w (fun j H => GX.NoTab H1 H ∧ GX.TQ Ms Xs H ∧ ∃ ws, H D = some (.lst ws) ∧ ThgL (D :: cs) H ws (((zs.take j).filter p).map e)) ⟨NoTab.same (same_upd nD), tq.same (same_upd nD), [], upd_same, ThgL.nil⟩ (fun i H _ p => hG H p.1) (fun i x H H' hi hP hy => ?_) (fun H hP => ?_)
  · obtain ⟨sm, tq', ws, eD, hw⟩ := hP
    have hd : zs[i]? = some zs[i] := List.getElem?_eq_getElem (by omega)
    have et : zs.take (i + 1) = zs.take i ++ [zs[i]] := by rw [List.take_add_one, hd]; rfl
    refine turn i x zs[i] H H' _ _ hd sm tq' ⟨ws, eD⟩ hy (fun hp y H4 s4 t4 hy4 => ?_) (fun hp H4 s4 t4 => ?_)
    · have eD4 := s4.lst eD
      have hl : ((zs.take i).filter p).length ≤ i := Nat.le_trans (List.length_filter_le ..) (by rw [List.length_take]; omega)
      have hwl := hw.1
      rw [List.length_map] at hwl
      refine ⟨ws, eD4, Nat.lt_of_lt_of_le (show ws.length < 100001 by omega) (by decide), (sm.trans s4).new nD, t4.upd eD4, ws ++ [y], upd_same, ?_⟩
      rw [et, List.filter_append, List.filter_cons_of_pos hp, List.filter_nil, List.map_append]
      exact ((hw.noTab s4).upd eD4 (by simp)).append (ThgL.one (hy4.upd eD4 (by simp)))
    · refine ⟨sm.trans s4, t4, ws, s4.lst eD, ?_⟩
      rw [et, List.filter_append, List.filter_cons_of_neg (by rw [hp]; decide), List.filter_nil, List.append_nil]
      exact hw.noTab s4
  · obtain ⟨sm, tq', ws, eD, hw⟩ := hP
    rw [List.take_of_length_le (by omega)] at hw
    exact fin H ws sm tq' eD hw

/-! ### way_of -/
abbrev WayT := Int × Str × Str
def trip3 (t : WayT) : PyData := .tuple [.int t.1, .str t.2.1, .str t.2.2]
theorem trip_any {cs cs' : List Addr} {H : Hp} {v : V} {m : WayT} (h : Thg cs H v (trip3 m)) : Thg cs' H v (trip3 m) := by
  obtain ⟨T, xs, rfl, eT, h1⟩ := h.tuple
  obtain ⟨x1, w1, rfl, g1, h2⟩ := h1.inv
  obtain ⟨x2, w2, rfl, g2, h3⟩ := h2.inv
  obtain ⟨x3, w3, rfl, g3, h4⟩ := h3.inv
  rw [h4.inv0, g1.inv_int, g2.inv_str, g3.inv_str] at eT
  exact ThgL.tup (.cons (.int _) (.cons (.str _) (.one (.str _)))) eT
theorem trips_any {cs cs' : List Addr} {H : Hp} {vs : List V} {ms : List WayT} (h : ThgL cs H vs (ms.map trip3)) : ThgL cs' H vs (ms.map trip3) := ⟨h.1, fun i x d e1 e2 => by
  obtain ⟨m, em, rfl⟩ := List.mem_map.mp (List.mem_of_getElem? e2)
  exact trip_any (h.2 i x _ e1 e2)⟩
def wayS (s : StepT) (n : Int) : List WayT := (s.puts.filter fun p => goneB p.2.2 n).map fun p => (s.num, p.1, p.2.1)
def wayF (ss : List StepT) (nm : Str) (n : Int) : List WayT := ss.flatMap fun s => if s.nam = nm then wayS s n else []
theorem go_puts : ∀ {ps : List Page} {st : StF}, ∀ s ∈ (goF st ps).2, s.puts.length ≤ 2
  | [], _, s, h => nomatch h
  | p :: r, st, s, h => by
    rcases List.mem_cons.mp (show s ∈ (pgF p st).2 :: (goF (pgF p st).1 r).2 from h) with e | e
    · rw [e]
      unfold pgF
      split
      · show (doF p.num p.deed (whF st p.deed.nam)).2.2.length ≤ 2
        cases p.deed with
        | pack => exact Nat.le_succ 1
        | lade => exact Nat.le_succ 1
        | sell => exact Nat.le_succ 1
        | back => exact Nat.le_succ 1
        | tell => exact Nat.le_refl 2
      · exact Nat.zero_le _
    · exact go_puts s e
theorem way_len {ss : List StepT} {nm : Str} {n : Int} (h : ∀ s ∈ ss, s.puts.length ≤ 2) : (wayF ss nm n).length ≤ 2 * ss.length := by
  unfold wayF
  induction ss with
  | nil => exact Nat.le_refl _
  | cons s r ih =>
    rw [List.flatMap_cons, List.length_append, List.length_cons]
    have h1 := ih fun x hx => h x (List.mem_cons_of_mem _ hx)
    have h2 : (if s.nam = nm then wayS s n else []).length ≤ 2 := by
      split
      · unfold wayS
        rw [List.length_map]
        exact Nat.le_trans (List.length_filter_le ..) (h s (List.mem_cons_self ..))
      · exact Nat.zero_le _
    omega
def spWay (K : PySem.W.Frag) (Ms : GX.Mq) (Xs : List Addr) (Pi Pg : Addr) : Sp := fun vs H Q _ => ∃ (a : Addr) (us : List V) (day n : Int) (nm : Str) (ps : List Page) (E : List Int) (SP : List Spt), vs = [.ref a, .int day, .str nm, .int n] ∧ SqH H a us ∧ PgL H us ps ∧ GX.TQ Ms Xs H ∧ LamO Ms Pi ∧ Pg ∈ Ms ∧ E.length ≤ 300 ∧ SP.length ≤ 1000 ∧ (∀ p ∈ ps, p.deed.Fit E SP p.num) ∧ ps.length ≤ 900 ∧
  ∀ l vs out H', H l = none → InO (ps.filter fun p => decide (p.day ≤ day)) out → H' l = some (.lst vs) → ThgL [] H' vs ((wayF (goF [] out).2 nm n).map trip3) → GX.NoTab H H' → GX.TQ Ms Xs H' → Q (.ref l) H'
abbrev sWay : Stmt := topS 31
theorem scWay : FnScope ["heap", "day", "name", "case", "stores", "steps", "way", "number", "packing", "page_word", "short", "puts", "word", "holder", "cases"] ["heap", "day", "name", "case"] (defScope sWay) := ⟨rfl, rfl, rfl, by decide +kernel, rfl, by decide +kernel, by decide +kernel⟩
section
variable {K : PySem.W.Frag} {mg : Str → Option Value} {P : Program} {w : World} {base : Heap} {Ms : GX.Mq} {Xs : List Addr} {Pi Pg : Addr}
theorem ok_Way {f : Addr} {fd : FuncData} (F : Fun K "way_of" "way_of" sWay f fd) (C_gone_through : Cal P w K mg base 7 "gone_through" ["heap", "day"] (spGone K Ms Xs Pi)) (C_is_in : Cal P w K mg base 4 "is_in" ["some", "number"] (spIsIn K Ms Xs Pg)) : FnOk P w K mg base CX0 8 f fd ["heap", "day", "name", "case"] (spWay K Ms Xs Pi Pg) := by
  refine F.ok scWay (fun vs H Q E h => ?_) (fun cdv A outer s H vs Q E hr h => ?_)
  · obtain ⟨a, us, day, n, nm, ps, E, SP, rfl, _⟩ := h
    rfl
  · obtain ⟨a, us, day, n, nm, ps, E, SP, rfl, ha, hu, hT, hL, hG, hE, hSP, hfit, hpl, q⟩ := h
    refine ⟨_, pss_cons (ps_asg (pe_own C_gone_through hr (by rfl) (pa_cons (pv 0) (pa_cons (pv 1) pa_nil))) (pg_tup rfl (pgs_cons (pg_name (i := 4) scWay.nd rfl (.inl rfl)) (pgs_cons (pg_name (i := 5) scWay.nd rfl (.inl rfl)) pgs_nil))))
      (pss_cons (ps_set (i := 6) scWay.nd rfl (.inl rfl) (pe_lst pa_nil))
      (pss_cons (ps_for PassesOwn.never rfl (pi_list (pv 5)) (pg_tup rfl (pgs_cons (pg_name (i := 7) scWay.nd rfl (.inr rfl)) (pgs_cons (pg_name (i := 8) scWay.nd rfl (.inl rfl)) (pgs_cons (pg_name (i := 9) scWay.nd rfl (.inl rfl)) (pgs_cons (pg_name (i := 10) scWay.nd rfl (.inl rfl)) (pgs_cons (pg_name (i := 11) scWay.nd rfl (.inl rfl)) pgs_nil))))))
        (pss_one (ps_if (pt_cmpR op_eq (pv 8) (pv 2) (nomark _)) (pss_one (ps_expr (pe_bm PySem.F.plainAttrs_list PySem.F.slot_list_extend PySem.F.type_list_extend mt_extend (pv 6) (pa_cons (pe_lc (own := [("word", 12), ("holder", 13), ("cases", 14)]) (g := (gTup K 3 (gCons (gName 12) (gCons (gName 13) (gCons (gName 14) gNil))))) (tt := (tB (tCall (spIsIn K Ms Xs Pg) [] E0 (tCons (tVar 14) (tCons (tVar 3) tNil))))) (te := (tTup (tCons (tVar 7) (tCons (tVar 12) (tCons (tVar 13) tNil))))) rfl scWay.nd (pi_list (pv 11)) (blkOk_by (own := [("word", 12), ("holder", 13), ("cases", 14)]) (N := ["heap", "day", "name", "case", "stores", "steps", "way", "number", "packing", "page_word", "short", "puts", "word", "holder", "cases"]) (sc := defScope sWay) (by decide +kernel)) (fun _ _ _ _ _ => (pg_tup rfl (pgs_cons (pg_name (i := 12) scWay.nd rfl (.inl rfl)) (pgs_cons (pg_name (i := 13) scWay.nd rfl (.inl rfl)) (pgs_cons (pg_name (i := 14) scWay.nd rfl (.inl rfl)) pgs_nil))))) (fun _ _ _ _ _ => (pts_one (pt_val (pe_own C_is_in (hr.mono (show 4 ≤ 7 by decide)) (by rfl) (pa_cons (pv 14) (pa_cons (pv 3) pa_nil)))))) (fun _ _ _ _ _ => (pe_tup (pa_cons (pv 7) (pa_cons (pv 12) (pa_cons (pv 13) pa_nil)))))) pa_nil))))
          pss_nil)))
      (pss_one (ps_ret (pv 6))))), ?_⟩
    refine ⟨_, rfl, _, rfl, a, us, day, ps, E, SP, rfl, ha, hu, hT, hL, hE, hSP, hfit, hpl, fun T0 S L kvs ws as out H1 nT0 eT0 eS eL hO hSt hLsA n1 t1 => have hLs := hLsA [] (fun _ z => nomatch z); ⟨T0, _, rfl, .inl (.inl eT0), rfl, _, _, rfl, _, _, rfl, rfl, ?_⟩⟩
    obtain ⟨L', us', eLL, eL', _, hLs⟩ := hLs.list
    cases eLL
    rw [eL] at eL'
    cases eL'
    have hol : (goF [] out).2.length = ws.length := by
      have := hLs.1
      rw [List.length_map] at this
      exact this.symm
    have hwl : ws.length ≤ 900 := by
      have h1 : ∀ (ps : List Page) (st : StF), (goF st ps).2.length = ps.length := fun ps => by
        induction ps with
        | nil => intro _; rfl
        | cons p r ih => intro st; show (goF _ r).2.length + 1 = _; rw [ih]; rfl
      rw [← hol, h1, hO.perm.length_eq]
      exact Nat.le_trans (List.length_filter_le _ _) hpl
    refine ⟨Nat.zero_le _, fun l nl => ?_⟩
    have sl := same_upd (o := .lst []) nl
    have el := upd_same (H := H1) (a := l) (o := .lst [])
    refine ⟨_, rfl, L, rfl, ⟨_, SqL.of (sl _ _ eL)⟩, for_list (xs := ws) (fun i σ Hx => ∃ (y7 y8 y9 y10 y11 : Option V) (vs : List V), σ = [some (.ref a), some (.int day), some (.str nm), some (.int n), some (.ref S), some (.ref L), some (.ref l), y7, y8, y9, y10, y11, none, none, none] ∧ GX.NoTab H1 Hx ∧ GX.TQ Ms Xs Hx ∧ Hx l = some (.lst vs) ∧ ThgL [l] Hx vs ((wayF ((goF [] out).2.take i) nm n).map trip3)) ⟨_, _, _, _, _, [], rfl, NoTab.same sl, t1.same sl, el, ThgL.nil⟩ (fun i σ Hx _ hP => ?_) (fun i v σ Hx hv hP => ?_) (fun σ Hx hP => ?_)⟩
    · obtain ⟨_, _, _, _, _, _, _, nx, _⟩ := hP
      exact SqL.of (nx.lst eL)
    · obtain ⟨y7, y8, y9, y10, y11, vs, rfl, nx, tx, elx, hvs⟩ := hP
      obtain ⟨s, es, hs⟩ := hLs.atM hv
      have etk : wayF ((goF [] out).2.take (i + 1)) nm n = wayF ((goF [] out).2.take i) nm n ++ (if s.nam = nm then wayS s n else []) := by
        unfold wayF
        rw [List.take_add_one, es, List.flatMap_append]
        show _ ++ ((if s.nam = nm then wayS s n else []) ++ []) = _
        rw [List.append_nil]
      obtain ⟨T, xs, rfl, eT, h1⟩ := (hs.noTab nx).tuple
      obtain ⟨x1, w1, rfl, g1, h2⟩ := h1.inv
      obtain ⟨x2, w2, rfl, g2, h3⟩ := h2.inv
      obtain ⟨x3, w3, rfl, g3, h4⟩ := h3.inv
      obtain ⟨x4, w4, rfl, g4, h5⟩ := h4.inv
      obtain ⟨x5, w5, rfl, g5, h6⟩ := h5.inv
      obtain ⟨pl, us2, rfl, ep, _, hus⟩ := id g5.list
      rw [h6.inv0, g1.inv_int, g2.inv_str, g3.inv_str] at eT
      have hvl := hvs.1
      rw [List.length_map] at hvl
      have hi : i < ws.length := (List.getElem?_eq_some_iff.mp hv).1
      have hvl2 : vs.length ≤ 2 * ((goF [] out).2.take i).length := by
        rw [hvl]
        exact way_len fun s hs => go_puts s (List.take_subset _ _ hs)
      rw [List.length_take] at hvl2
      have hul := hus.1
      rw [List.length_map] at hul
      have hp2 := go_puts s (List.mem_of_getElem? es)
      refine ⟨T, _, rfl, .inl (.inl eT), rfl, _, _, rfl, _, _, rfl, _, _, rfl, _, _, rfl, _, _, rfl, rfl, ?_⟩
      refine ⟨_, rfl, _, rfl, rfl, _, rfl, ite2 (fun c => ?_) (fun c => ?_)⟩
      · have en : s.nam = nm := V.str.inj (of_decide_eq_true c)
        refine ⟨_, rfl, .inl ⟨rfl, _, SqL.of elx⟩, _, rfl, pl, rfl, ⟨_, SqL.of ep⟩, fun D nD => lc_selT s.puts (fun p => goneB p.2.2 n) (fun p => trip3 (s.num, p.1, p.2.1)) (walk_list (xs := us2)) [l] nD tx hul.symm (by omega) (fun H' n' => SqL.of (n'.lst ep)) (fun j x p Hy Hy' Kt Kn hp ny ty _ hy kt kn => ?_) (fun H4 wd n4 t4 eD4 hw4 => ?_)⟩
        · obtain ⟨rfl, hx⟩ := hy
          obtain ⟨p', ep', hpT⟩ := hus.atM hx
          rw [hp] at ep'
          cases ep'
          obtain ⟨T2, xs2, rfl, eT2, k1⟩ := (hpT.noTab ny).tuple
          obtain ⟨z1, v1, rfl, f1, k2⟩ := k1.inv
          obtain ⟨z2, v2, rfl, f2, k3⟩ := k2.inv
          obtain ⟨z3, v3, rfl, f3, k4⟩ := k3.inv
          obtain ⟨cl, us3, rfl, ec, _, hc⟩ := id f3.list
          rw [k4.inv0, f1.inv_str, f2.inv_str] at eT2
          refine ⟨T2, _, rfl, .inl (.inl eT2), rfl, _, _, rfl, _, _, rfl, _, _, rfl, rfl, rfl, ?_⟩
          refine ⟨_, rfl, _, rfl, cl, p.2.2, n, rfl, ⟨us3, .inl ec, hc.prs⟩, ty, hG, fun H5 n5 t5 => ⟨goneB p.2.2 n, rfl, ite2 (fun c2 => ?_) (fun c2 => ?_)⟩⟩
          · refine ⟨_, rfl, _, rfl, _, rfl, (by show 3 ≤ sizeLine; decide), fun T3 nT3 => kt c2 _ _ (n5.trans (NoTab.same (same_upd nT3))) (t5.same (same_upd nT3)) ?_⟩
            exact ThgL.tup (.cons (.int _) (.cons (.str _) (.one (.str _)))) upd_same
          · exact kn (by cases hx : goneB p.2.2 n with | true => exact absurd hx c2 | false => rfl) _ n5 t5
        · have el4 := n4.lst elx
          have hdl : D ≠ l := fun z => by rw [z, elx] at nD; cases nD
          have hwl4 := hw4.1
          rw [List.length_map] at hwl4
          have hfl := List.length_filter_le (fun p : PutT => goneB p.2.2 n) s.puts
          refine ⟨l, D, _, _, rfl, rfl, el4, eD4, by rw [sizeLine_eq]; omega, _, _, _, _, _, vs ++ wd, rfl, (nx.trans n4).new nl, t4.upd el4, upd_same, ?_⟩
          rw [etk, if_pos en, List.map_append]
          have hw5 : ThgL [l] H4 wd ((wayS s n).map trip3) := by
            unfold wayS
            rw [List.map_map]
            exact hw4.less fun c hc => List.mem_cons_of_mem _ hc
          exact ((hvs.noTab n4).upd el4 (by simp)).append (hw5.upd el4 (by simp))
      · have en : ¬ s.nam = nm := fun z => c (decide_eq_true (congrArg V.str z))
        refine ⟨_, _, _, _, _, vs, rfl, nx, tx, elx, ?_⟩
        rw [etk, if_neg en, List.append_nil]
        exact hvs
    · obtain ⟨_, _, _, _, _, vs, rfl, nx, tx, elx, hvs⟩ := hP
      rw [← hol, List.take_length] at hvs
      exact ⟨_, rfl, q l vs out Hx (n1.free nl) hO elx (trips_any hvs) (n1.trans nx) tx⟩
end

/-! ### what stands between two turns: the mathematics -/
structure Bg (x : Str) (hs : List Str) (m dy lo : Int) (ps : List Page) (W : Whr) : Prop where
  go : ∃ ss, goF [] ps = ([(x, W)], ss)
  dom : ∀ n, W n ≠ none ↔ 0 ≤ n ∧ n < m
  ltr : LtrW W
  hin : ∀ n h, W n = some (.ly h) → h ∈ hs
  nb : ∀ n, W n ≠ some .back
  deed : ∀ p ∈ ps, DeedIn [x] hs 30 p.deed
  day : ∀ p ∈ ps, 0 ≤ p.day ∧ p.day ≤ dy
  num : ∀ p ∈ ps, 0 ≤ p.num ∧ p.num < lo
  up : ps.Pairwise PgLe
  nd : (ps.map (·.num)).Nodup
def isBack : Deed → Bool | .back .. => true | _ => false
theorem do_hin {num : Int} {x : Str} {hs : List Str} {m : Int} {d : Deed} {W : Whr} (hd : DeedIn [x] hs m d) (hp : isPack d = false) (h : ∀ n h, W n = some (.ly h) → h ∈ hs) : ∀ n h, (doF num d W).1 n = some (.ly h) → h ∈ hs := by
  have ca : ∀ o g p, (∀ y, g = .ly y → y ∈ hs) → ∀ n y, caW W o g p n = some (.ly y) → y ∈ hs := fun o g p hg n y e => by
    unfold caW at e
    split at e
    · exact hg y (Option.some.inj e)
    · exact h n y e
  intro n y e
  cases d with
  | pack => cases hp
  | lade o t z a b => exact ca o (.ly t) (AskS a b) (fun y e => by rw [← Spt.ly.inj e]; exact hd.2.2.1) n y e
  | sell o z a b => exact ca o .sold (AskS a b) (fun y e => nomatch e) n y e
  | back o z a b => exact ca o .back (AskS a b) (fun y e => nomatch e) n y e
  | tell o z ts =>
    have e : teW W o num (InS ts) n = some (.ly y) := e
    unfold teW at e
    split at e
    · rw [← Spt.ly.inj (Option.some.inj e)]; exact hd.2.1
    · split at e
      · cases Option.some.inj e
      · exact h n y e
theorem do_nb {num : Int} {d : Deed} {W : Whr} (hp : isPack d = false) (hb : isBack d = false) (h : ∀ n, W n ≠ some .back) : ∀ n, (doF num d W).1 n ≠ some .back := by
  have ca : ∀ o g p, g ≠ .back → ∀ n, caW W o g p n ≠ some .back := fun o g p hg n e => by
    unfold caW at e
    split at e
    · exact hg (Option.some.inj e)
    · exact h n e
  intro n e
  cases d with
  | pack => cases hp
  | lade o t z a b => exact ca o (.ly t) (AskS a b) (fun z => nomatch z) n e
  | sell o z a b => exact ca o .sold (AskS a b) (fun z => nomatch z) n e
  | back o z a b => cases hb
  | tell o z ts =>
    have e : teW W o num (InS ts) n = some .back := e
    unfold teW at e
    split at e
    · cases Option.some.inj e
    · split at e
      · cases Option.some.inj e
      · exact h n e
theorem Bg.snoc {x : Str} {hs : List Str} {m dy dy' lo lo' : Int} {ps : List Page} {W : Whr} {p : Page} (h : Bg x hs m dy lo ps W) (hh : ∀ y ∈ hs, Ltr y) (hp : isPack p.deed = false) (hbk : isBack p.deed = false) (hd : DeedIn [x] hs 30 p.deed) (hn : DoneD p.deed) (hl : LtrD p.deed) (h1 : dy ≤ p.day) (h2 : p.day ≤ dy') (h0 : 0 ≤ p.day) (h3 : lo ≤ p.num) (h4 : p.num < lo') (h5 : 0 ≤ p.num) : Bg x hs m dy' lo' (ps ++ [p]) (doF p.num p.deed W).1 := by
  obtain ⟨ss, go⟩ := h.go
  have hx : p.deed.nam = x := List.mem_singleton.mp (nam_in hd)
  have mem : ∀ q ∈ ps ++ [p], q ∈ ps ∨ q = p := fun q hq => (List.mem_append.mp hq).elim .inl fun z => .inr (List.mem_singleton.mp z)
  refine ⟨⟨ss ++ [⟨p.num, x, "done", (doF p.num p.deed W).2.1, (doF p.num p.deed W).2.2⟩], by rw [goF_snoc, go, pg_one hx hn]⟩, fun n => ?_, do_ltr hl h.ltr, do_hin hd hp h.hin, do_nb hp hbk h.nb, fun q hq => ?_, fun q hq => ?_, fun q hq => ?_, ?_, ?_⟩
  · rw [← h.dom n]
    exact not_congr (do_dom hp n)
  · rcases mem q hq with z | rfl
    · exact h.deed q z
    · exact hd
  · rcases mem q hq with z | rfl
    · have := h.day q z; omega
    · exact ⟨h0, h2⟩
  · rcases mem q hq with z | rfl
    · have := h.num q z; omega
    · exact ⟨h5, h4⟩
  · refine List.pairwise_append.mpr ⟨h.up, List.pairwise_singleton .., fun a ha b hb => ?_⟩
    rw [List.mem_singleton.mp hb]
    have a1 := h.day a ha
    have a2 := h.num a ha
    unfold PgLe
    omega
  · rw [List.map_append]
    refine List.nodup_append.mpr ⟨h.nd, List.nodup_cons.mpr ⟨(fun z => nomatch z), List.nodup_nil⟩, fun a ha b hb e => ?_⟩
    obtain ⟨q, hq, rfl⟩ := List.mem_map.mp ha
    have h6 : b = p.num := List.mem_singleton.mp hb
    have a2 := (h.num q hq).2
    rw [e, h6] at a2
    omega
theorem Bg.mono {x : Str} {hs : List Str} {m dy dy' lo lo' : Int} {ps : List Page} {W : Whr} (h : Bg x hs m dy lo ps W) (h1 : dy ≤ dy') (h2 : lo ≤ lo') : Bg x hs m dy' lo' ps W := ⟨h.go, h.dom, h.ltr, h.hin, h.nb, h.deed, fun p hp => by have := h.day p hp; omega, fun p hp => by have := h.num p hp; omega, h.up, h.nd⟩
theorem Bg.pack {x h : Str} {hs : List Str} {m : Int} (hm : 1 ≤ m) (hm2 : m ≤ 12) (hh : h ∈ hs) (hl : Ltr h) : Bg x hs m 0 1 [⟨0, 0, .pack x m h⟩] (ptW (fun _ => none) (.ly h) (AskS 0 (m - 1))) := by
  refine ⟨⟨_, go_pack⟩, fun n => ?_, fun n y e => ?_, fun n y e => ?_, fun n e => ?_, fun q hq => ?_, fun q hq => ?_, fun q hq => ?_, List.pairwise_singleton .., List.nodup_cons.mpr ⟨(fun z => nomatch z), List.nodup_nil⟩⟩
  · unfold ptW
    by_cases c : AskS 0 (m - 1) n
    · rw [if_pos c]
      unfold AskS at c
      exact ⟨fun _ => by omega, fun _ z => nomatch z⟩
    · rw [if_neg c]
      unfold AskS at c
      exact ⟨fun z => absurd rfl z, fun z => by omega⟩
  · rcases pt_at.mp e with ⟨_, z⟩ | ⟨_, z⟩
    · rw [Spt.ly.inj z]; exact hl
    · cases z
  · rcases pt_at.mp e with ⟨_, z⟩ | ⟨_, z⟩
    · rw [Spt.ly.inj z]; exact hh
    · cases z
  · rcases pt_at.mp e with ⟨_, z⟩ | ⟨_, z⟩ <;> cases z
  · rw [List.mem_singleton.mp hq]; exact ⟨List.mem_singleton.mpr rfl, hh, hm, by omega⟩
  · rw [List.mem_singleton.mp hq]; exact ⟨Int.le_refl _, Int.le_refl _⟩
  · rw [List.mem_singleton.mp hq]; exact ⟨Int.le_refl _, by show (0 : Int) < 1; decide⟩
/-- what a deed moved, told by a dict -/
structure Mvd (x : Str) (hs : List Str) (num : Int) (dd : Deed) (W : Whr) (h : Str) (M : Int → Option Str) : Prop where
  txt : ∀ n, (M n = none → txF (doF num dd W).1 n = txF W n) ∧ ∀ wd, M n = some wd → txF (doF num dd W).1 n = some (if wd = "found" then h else wd ++ "!")
  put : ∀ n wd, M n = some wd → wayS ⟨num, x, "done", (doF num dd W).2.1, (doF num dd W).2.2⟩ n = [(num, wd, h)]
  wds : ∀ n wd, M n = some wd → wd.length ≤ 10
  dom : ∀ n wd, M n = some wd → W n ≠ none
  deed : DeedIn [x] hs 30 dd
  np : isPack dd = false
  nbk : isBack dd = false
  dn : DoneD dd
  lt : LtrD dd
theorem gone_canon {q : Int → Prop} {n : Int} (h : ∀ n, q n → 0 ≤ n ∧ n < 100) : goneB (canon q) n = true ↔ q n := by
  rw [goneB_iff]
  exact (told_sup h).same n
open Classical in
theorem mvd_sell {x h : Str} {hs : List Str} {num b m : Int} {W : Whr} (hl : Ltr h) (hm : h ∈ hs) (hb0 : 0 ≤ b) (hb1 : b < 20) (dom : ∀ n, W n ≠ none ↔ 0 ≤ n ∧ n < m) (hmm : m ≤ 12) : Mvd x hs num (.sell h x 0 b) W h fun n => if W n = some (.ly h) ∧ n ≤ b then some "sold" else none := by
  have hq : ∀ n, W n = some (.ly h) ∧ n ≤ b ↔ W n = some (.ly h) ∧ AskS 0 b n := fun n => by
    unfold AskS
    constructor
    · rintro ⟨z1, z2⟩
      have := (dom n).mp (by rw [z1]; exact fun z => nomatch z)
      exact ⟨z1, by omega⟩
    · rintro ⟨z1, z2⟩; exact ⟨z1, z2.2⟩
  have inv : ∀ n wd, (if W n = some (.ly h) ∧ n ≤ b then some ("sold" : Str) else none) = some wd → wd = "sold" ∧ W n = some (.ly h) ∧ n ≤ b := fun n wd e => by
    split at e
    · rename_i c; exact ⟨(Option.some.inj e).symm, c⟩
    · cases e
  refine ⟨fun n => ⟨fun e => ?_, fun wd e => ?_⟩, fun n wd e => ?_, fun n wd e => ?_, fun n wd e => ?_, ⟨List.mem_singleton.mpr rfl, hm, Int.le_refl _, hb0, by omega⟩, rfl, rfl, True.intro, hl⟩
  · refine (txF_ca (g := .sold) n).2 fun z => ?_
    rw [if_pos ((hq n).mpr z)] at e
    cases e
  · obtain ⟨rfl, z⟩ := inv n wd e
    rw [if_neg (by decide +kernel)]
    exact (txF_ca (g := .sold) n).1 ((hq n).mp z)
  · obtain ⟨rfl, z⟩ := inv n wd e
    show ((([("sold", h, canon fun n => W n = some (.ly h) ∧ AskS 0 b n)] : List PutT).filter fun p => goneB p.2.2 n).map fun p => (num, p.1, p.2.1)) = _
    rw [List.filter_cons_of_pos (by exact (gone_canon fun k hk => by have := hk.2; unfold AskS at this; omega).mpr ((hq n).mp z))]
    rfl
  · obtain ⟨rfl, _⟩ := inv n wd e
    decide +kernel
  · obtain ⟨_, z, _⟩ := inv n wd e
    rw [z]; exact fun z => nomatch z
open Classical in
noncomputable def tellM (W : Whr) (h : Str) (ts : Prs2) : Int → Option Str := fun n => if FndP W (InS ts) n then some "found" else if W n = some (.ly h) ∧ ¬ InS ts n then some "lacking" else none
theorem mvd_tell {x h : Str} {hs : List Str} {num m : Int} {W : Whr} {ts : Prs2} (hl : Ltr h) (hm : h ∈ hs) (hr : ∃ lo, Ris lo ts) (hts : ∀ n, InS ts n → 0 ≤ n ∧ n < 30) (dom : ∀ n, W n ≠ none ↔ 0 ≤ n ∧ n < m) (hmm : m ≤ 12) : Mvd x hs num (.tell h x ts) W h (tellM W h ts) := by
  have inv : ∀ n wd, tellM W h ts n = some wd → (wd = "found" ∧ FndP W (InS ts) n) ∨ (wd = "lacking" ∧ W n = some (.ly h) ∧ ¬ InS ts n) := fun n wd e => by
    unfold tellM at e
    split at e
    · rename_i c; exact .inl ⟨(Option.some.inj e).symm, c⟩
    · split at e
      · rename_i c; exact .inr ⟨(Option.some.inj e).symm, c⟩
      · cases e
  have b1 : ∀ k, W k = some (.ly h) ∧ ¬ InS ts k → 0 ≤ k ∧ k < 100 := fun k hk => by
    have := (dom k).mp (by rw [hk.1]; exact fun z => nomatch z)
    omega
  have b2 : ∀ k, FndP W (InS ts) k → 0 ≤ k ∧ k < 100 := fun k hk => by
    have := hts k hk.2
    omega
  refine ⟨fun n => ⟨fun e => ?_, fun wd e => ?_⟩, fun n wd e => ?_, fun n wd e => ?_, fun n wd e => ?_, ⟨List.mem_singleton.mpr rfl, hm, hr, fun k hk => by have := hts k hk; omega⟩, rfl, rfl, True.intro, hl⟩
  · unfold tellM at e
    split at e
    · cases e
    · rename_i c1
      split at e
      · cases e
      · rename_i c2
        exact (txF_te n).2.2 c1 c2
  · rcases inv n wd e with ⟨rfl, z⟩ | ⟨rfl, z⟩
    · rw [if_pos rfl]
      exact (txF_te n).1 z
    · rw [if_neg (by decide +kernel)]
      exact (txF_te n).2.1 z
  · show ((([("lacking", h, canon fun n => W n = some (.ly h) ∧ ¬ InS ts n), ("found", h, canon (FndP W (InS ts)))] : List PutT).filter fun p => goneB p.2.2 n).map fun p => (num, p.1, p.2.1)) = _
    rcases inv n wd e with ⟨rfl, z⟩ | ⟨rfl, z⟩
    · have n1 : ¬ goneB (canon fun n => W n = some (.ly h) ∧ ¬ InS ts n) n = true := fun y => ((gone_canon b1).mp y).2 z.2
      rw [List.filter_cons_of_neg (by exact n1), List.filter_cons_of_pos (by exact (gone_canon b2).mpr z)]
      rfl
    · have n1 : ¬ goneB (canon (FndP W (InS ts))) n = true := fun y => z.2 ((gone_canon b2).mp y).2
      rw [List.filter_cons_of_pos (by exact (gone_canon b1).mpr z), List.filter_cons_of_neg (by exact n1)]
      rfl
  · rcases inv n wd e with ⟨rfl, z⟩ | ⟨rfl, z⟩ <;> decide +kernel
  · rcases inv n wd e with ⟨rfl, z⟩ | ⟨rfl, z⟩
    · obtain ⟨⟨k, z⟩, _⟩ := z
      rw [z]; exact fun z => nomatch z
    · rw [z.1]; exact fun z => nomatch z
theorem pp_perm {ps : List Page} {p : Page} {r : Nat} : (ps.take r ++ [p] ++ ps.drop r).Perm (p :: ps) := by
  rw [List.append_assoc]
  refine (List.perm_middle (a := p) (l₁ := ps.take r) (l₂ := ps.drop r)).trans ?_
  rw [List.take_append_drop]

/-! ### one case moved -/
theorem canon_none {q : Int → Prop} (h : ∀ n, ¬ q n) : canon q = [] := (Told.canon (rs := []) ⟨⟨0, True.intro⟩, fun n => ⟨fun z => absurd z inS_nil, fun z => absurd z (h n)⟩⟩).symm
theorem ThgL.dict {cs : List Addr} {H : Hp} {B : Addr} {kv kv' : List (L2.Key × V)} {us : List V} {ds : List PyData} (h : ThgL cs H us ds) (e : H B = some (.dK kv)) : ThgL cs (L2.upd H B (.dK kv')) us ds :=
  ⟨h.1, fun i x d e1 e2 => (h.2 i x d e1 e2).ext (fun a xs _ e' => by rw [upd_ne fun z => by rw [z, e] at e'; cases e']; exact e') fun a xs e' => by rw [upd_ne fun z => by rw [z, e] at e'; cases e']; exact e'⟩
/-- one case is moved: what a page says of it -/
structure OneMv (x o : Str) (n : Int) (g : Spt) (dd : Deed) : Prop where
  w : ∀ num W, (doF num dd W).1 = caW W o g (AskS n n)
  s : ∀ num W, (doF num dd W).2.1 = canon fun k => AskS n n k ∧ ¬ (W k = some (.ly o) ∧ AskS n n k)
  np : isPack dd = false
  dn : DoneD dd
  inn : ∀ hs m, o ∈ hs → (∀ h, g = .ly h → h ∈ hs) → 0 ≤ n → n < m → DeedIn [x] hs (m + 1) dd
  lt : (Ltr o) → (∀ h, g = .ly h → Ltr h) → LtrD dd
  nlk : ∀ k, g ≠ .lk k
theorem OneMv.short {x o : Str} {n : Int} {g : Spt} {dd : Deed} (h : OneMv x o n g dd) {W : Whr} (hW : W n = some (.ly o)) (num : Int) : (doF num dd W).2.1 = [] := by
  rw [h.s]
  refine canon_none fun k hk => hk.2 ?_
  have : k = n := by have := hk.1; unfold AskS at this; omega
  rw [this]
  exact ⟨hW, by unfold AskS; omega⟩
theorem OneMv.txt {x o : Str} {n : Int} {g : Spt} {dd : Deed} (h : OneMv x o n g dd) {W : Whr} (hW : W n = some (.ly o)) (num : Int) (k : Int) : (if k = n then some (txtOf g) else txF W k) = txF (doF num dd W).1 k := by
  rw [h.w]
  by_cases e : k = n
  · rw [if_pos e, e, (txF_ca n).1 ⟨hW, by unfold AskS; omega⟩]
  · rw [if_neg e, (txF_ca k).2 fun z => e (by have := z.2; unfold AskS at this; omega)]
theorem OneMv.off {x o : Str} {n : Int} {g : Spt} {dd : Deed} (h : OneMv x o n g dd) (W : Whr) (num : Int) {k : Int} (e : k ≠ n) : (doF num dd W).1 k = W k := by
  rw [h.w]
  unfold caW
  rw [if_neg fun z => e (by have := z.2; unfold AskS at this; omega)]
theorem OneMv.at {x o : Str} {n : Int} {g : Spt} {dd : Deed} (h : OneMv x o n g dd) {W : Whr} (hW : W n = some (.ly o)) (num : Int) : (doF num dd W).1 n = some g := by
  rw [h.w]
  unfold caW
  rw [if_pos ⟨hW, by unfold AskS; omega⟩]
theorem oneMv_lade {x o t : Str} {n : Int} (h : o ≠ t) : OneMv x o n (.ly t) (.lade o t x n n) := ⟨fun _ _ => rfl, fun _ _ => rfl, rfl, h, fun hs m h1 h2 h3 h4 => ⟨List.mem_singleton.mpr rfl, h1, h2 t rfl, h3, Int.le_refl _, by omega⟩, fun h1 h2 => ⟨h1, h2 t rfl⟩, fun _ z => nomatch z⟩
theorem oneMv_sell {x o : Str} {n : Int} : OneMv x o n .sold (.sell o x n n) := ⟨fun _ _ => rfl, fun _ _ => rfl, rfl, True.intro, fun hs m h1 h2 h3 h4 => ⟨List.mem_singleton.mpr rfl, h1, h3, Int.le_refl _, by omega⟩, fun h1 h2 => h1, fun _ z => nomatch z⟩
theorem oneMv_back {x o : Str} {n : Int} : OneMv x o n .back (.back o x n n) := ⟨fun _ _ => rfl, fun _ _ => rfl, rfl, True.intro, fun hs m h1 h2 h3 h4 => ⟨List.mem_singleton.mpr rfl, h1, h3, Int.le_refl _, by omega⟩, fun h1 h2 => h1, fun _ z => nomatch z⟩
theorem deed_at {cs : List Addr} {H : Hp} {D : Addr} {d : Deed} (x : H D = some (.tup ((deedK d).map kV))) (e : deedT d = []) : Thg cs H (.ref D) (deedD d) := by
  unfold deedD
  rw [e, List.append_nil]
  exact ThgL.tup keys_thg x

/-! ### law -/
/-- what stands: the draws, the heap of pages, the dict, the holders -/
structure Al2 (Ms : GX.Mq) (Xs : List Addr) (d c ho L B : Addr) (hs : List Str) (us : List V) (hp : List Page) (kv : List (L2.Key × V)) (Hx : Hp) (t : Int) : Prop where
  S : StAt Hx d c t
  tq : GX.TQ Ms Xs Hx
  eh : Hx ho = some (.lst (hs.map V.str))
  el : Hx L = some (.lst us)
  hu : ThgL [c, L] Hx us (hp.map pageD)
  eb : Hx B = some (.dK kv)
theorem tq_updK {Ms : GX.Mq} {Xs : List Addr} {H : Hp} {B : Addr} {kv : List (L2.Key × V)} {o : HO} (h : GX.TQ Ms Xs H) (e : H B = some (.dK kv)) : GX.TQ Ms Xs (upd H B o) :=
  h.keep (fun b ps hb => by rw [upd_ne (ne_of hb e (fun z => nomatch z))]; exact hb)
    (fun b c' P hb => by rw [upd_ne (ne_of hb e (fun z => by unfold GX.CodeG at z; cases z))]; exact hb)
    (fun b c' q hb => by rw [upd_ne (ne_of hb e (fun z => by unfold LamX.CodeO at z; cases z))]; exact hb)
theorem tq_updF {Ms : GX.Mq} {Xs : List Addr} {H : Hp} {B : Addr} {od : Obj} {u o : HO} (h : GX.TQ Ms Xs H) (e : H B = some (.frz od u)) : GX.TQ Ms Xs (upd H B o) :=
  h.keep (fun b ps hb => by rw [upd_ne (ne_of hb e (fun z => nomatch z))]; exact hb)
    (fun b c' P hb => by rw [upd_ne (ne_of hb e (fun z => by unfold GX.CodeG at z; cases z))]; exact hb)
    (fun b c' q hb => by rw [upd_ne (ne_of hb e (fun z => by unfold LamX.CodeO at z; cases z))]; exact hb)
theorem tq_updL {Ms : GX.Mq} {Xs : List Addr} {H : Hp} {B : Addr} {us : List V} {o : HO} (h : GX.TQ Ms Xs H) (e : H B = some (.lst us)) : GX.TQ Ms Xs (upd H B o) :=
  h.keep (fun b ps hb => by rw [upd_ne (ne_of hb e (fun z => nomatch z))]; exact hb)
    (fun b c' P hb => by rw [upd_ne (ne_of hb e (fun z => by unfold GX.CodeG at z; cases z))]; exact hb)
    (fun b c' q hb => by rw [upd_ne (ne_of hb e (fun z => by unfold LamX.CodeO at z; cases z))]; exact hb)
section
variable {Ms : GX.Mq} {Xs : List Addr} {d c ho L B : Addr} {hs : List Str} {us : List V} {hp : List Page} {kv : List (L2.Key × V)} {Hx Hy : Hp} {t t' : Int}
theorem Al2.noTab (h : Al2 Ms Xs d c ho L B hs us hp kv Hx t) (n : GX.NoTab Hx Hy) (tq : GX.TQ Ms Xs Hy) : Al2 Ms Xs d c ho L B hs us hp kv Hy t := ⟨h.S.noTabW n, tq, n.lst h.eh, n.lst h.el, h.hu.noTab n, n.keep _ _ h.eb fun _ z => nomatch z⟩
theorem Al2.same (h : Al2 Ms Xs d c ho L B hs us hp kv Hx t) (s : Same Hx Hy) : Al2 Ms Xs d c ho L B hs us hp kv Hy t := h.noTab (NoTab.same s) (h.tq.same s)
theorem Al2.kp (h : Al2 Ms Xs d c ho L B hs us hp kv Hx t) (k : Kp d c Hx Hy) (S : StAt Hy d c t') (oh : ho ≠ d ∧ ho ≠ c) (ol : L ≠ d ∧ L ≠ c) (ob : B ≠ d ∧ B ≠ c) : Al2 Ms Xs d c ho L B hs us hp kv Hy t' := ⟨S, tq_kpW h.tq h.S k, k _ _ oh.1 oh.2 h.eh, k _ _ ol.1 ol.2 h.el, h.hu.kp h.S k (List.mem_cons_self ..), k _ _ ob.1 ob.2 h.eb⟩
theorem Al2.put (h : Al2 Ms Xs d c ho L B hs us hp kv Hx t) (ob : B ≠ d ∧ B ≠ c) (hB : ho ≠ B) (LB : L ≠ B) (kv' : List (L2.Key × V)) : Al2 Ms Xs d c ho L B hs us hp kv' (upd Hx B (.dK kv')) t := ⟨h.S.upd ob.1 ob.2, tq_updK h.tq h.eb, by rw [upd_ne hB]; exact h.eh, by rw [upd_ne LB]; exact h.el, h.hu.dict h.eb, upd_same⟩
theorem Al2.heap {us' : List V} {hp' : List Page} (h : Al2 Ms Xs d c ho L B hs us hp kv Hx t) (ol : L ≠ d ∧ L ≠ c) (hL : ho ≠ L) (LB : L ≠ B) (hu : ThgL [c, L] Hx us' (hp'.map pageD)) : Al2 Ms Xs d c ho L B hs us' hp' kv (upd Hx L (.lst us')) t := ⟨h.S.upd ol.1 ol.2, tq_updL h.tq h.el, by rw [upd_ne hL]; exact h.eh, upd_same, hu.upd h.el (by simp), by rw [upd_ne LB.symm]; exact h.eb⟩
end
open Classical in
noncomputable def lkM (W : Whr) (h : Str) (ts : Prs2) : Int → Option Str := fun n => if W n = some (.ly h) ∧ ¬ InS ts n then some "lacking" else none
theorem same_unlock {H H' : Hp} {B : Addr} {od : Obj} {u : HO} (e : H B = some u) (s : Same (upd H B (.frz od u)) H') : Same H (upd H' B u) := fun a o ea => by
  by_cases c : a = B
  · rw [c] at ea ⊢
    rw [upd_same, ← e]; exact ea
  · rw [upd_ne c]
    exact s _ _ (by rw [upd_ne c]; exact ea)
theorem ThgL.frz {cs : List Addr} {H : Hp} {B : Addr} {od : Obj} {u o : HO} {us : List V} {ds : List PyData} (h : ThgL cs H us ds) (e : H B = some (.frz od u)) : ThgL cs (L2.upd H B o) us ds :=
  ⟨h.1, fun i x d e1 e2 => (h.2 i x d e1 e2).ext (fun a xs _ e' => by rw [upd_ne fun z => by rw [z, e] at e'; cases e']; exact e') fun a xs e' => by rw [upd_ne fun z => by rw [z, e] at e'; cases e']; exact e'⟩
theorem Thg.dict2 {cs : List Addr} {H : Hp} {B : Addr} {kv : List (L2.Key × V)} {o : HO} {v : V} {d : PyData} (h : Thg cs H v d) (e : H B = some (.dK kv)) : Thg cs (L2.upd H B o) v d :=
  h.ext (fun a xs _ e' => by rw [upd_ne fun z => by rw [z, e] at e'; cases e']; exact e') fun a xs e' => by rw [upd_ne fun z => by rw [z, e] at e'; cases e']; exact e'
theorem ThgL.dict2 {cs : List Addr} {H : Hp} {B : Addr} {kv : List (L2.Key × V)} {o : HO} {us : List V} {ds : List PyData} (h : ThgL cs H us ds) (e : H B = some (.dK kv)) : ThgL cs (L2.upd H B o) us ds :=
  ⟨h.1, fun i x d e1 e2 => (h.2 i x d e1 e2).ext (fun a xs _ e' => by rw [upd_ne fun z => by rw [z, e] at e'; cases e']; exact e') fun a xs e' => by rw [upd_ne fun z => by rw [z, e] at e'; cases e']; exact e'⟩
section
variable {Ms : GX.Mq} {Xs : List Addr} {d c ho L B Mv : Addr} {hs : List Str} {us : List V} {hp : List Page} {kv kvm : List (L2.Key × V)} {Hx : Hp} {t : Int} {od : Obj} {u o : HO}
theorem Al2.offK (h : Al2 Ms Xs d c ho L B hs us hp kv Hx t) (e : Hx Mv = some (.dK kvm)) (om : Mv ≠ d ∧ Mv ≠ c) (mb : Mv ≠ B) : Al2 Ms Xs d c ho L B hs us hp kv (upd Hx Mv o) t :=
  ⟨h.S.upd om.1 om.2, tq_updK h.tq e, by rw [upd_ne fun z => by have e' := h.eh; rw [z, e] at e'; cases e']; exact h.eh, by rw [upd_ne fun z => by have e' := h.el; rw [z, e] at e'; cases e']; exact h.el, h.hu.dict2 e, by rw [upd_ne mb.symm]; exact h.eb⟩
theorem Al2.offF (h : Al2 Ms Xs d c ho L B hs us hp kv Hx t) (e : Hx Mv = some (.frz od u)) (om : Mv ≠ d ∧ Mv ≠ c) (mb : Mv ≠ B) : Al2 Ms Xs d c ho L B hs us hp kv (upd Hx Mv o) t :=
  ⟨h.S.upd om.1 om.2, tq_updF h.tq e, by rw [upd_ne fun z => by have e' := h.eh; rw [z, e] at e'; cases e']; exact h.eh, by rw [upd_ne fun z => by have e' := h.el; rw [z, e] at e'; cases e']; exact h.el, h.hu.frz e, by rw [upd_ne mb.symm]; exact h.eb⟩
end
theorem sm_trip1 {w : WayT} : Sm 4 (.list [trip3 w]) := by
  unfold Sm
  refine ⟨by show 1 ≤ 900; decide, fun d hd => ?_⟩
  rw [List.mem_singleton.mp hd]
  unfold trip3 Sm
  refine ⟨by show 3 ≤ 900; decide, fun d hd => ?_⟩
  rcases List.mem_cons.mp hd with e | e
  · rw [e]; trivial
  rcases List.mem_cons.mp e with e | e
  · rw [e]; trivial
  rw [List.mem_singleton.mp e]; trivial
theorem nb_trip1 {w : WayT} : NoBl (.list [trip3 w]) := by
  rw [NoBl]
  refine noBls_of fun d hd => ?_
  rw [List.mem_singleton.mp hd]
  unfold trip3
  rw [NoBl]
  refine noBls_of fun d hd => ?_
  rcases List.mem_cons.mp hd with e | e
  · rw [e]; exact nb_int
  rcases List.mem_cons.mp e with e | e
  · rw [e]; exact nb_str
  rw [List.mem_singleton.mp e]; exact nb_str
theorem thgl_last {cs : List Addr} {H : Hp} {vs : List V} {A : List WayT} {w : WayT} (h : ThgL cs H vs ((A ++ [w]).map trip3)) : ThgL cs H (cutV vs (some (-1)) none) [trip3 w] := by
  have hl : vs.length = A.length + 1 := by have := h.1; rw [List.length_map, List.length_append] at this; exact this
  unfold cutV
  have e : HT.sIx vs.length 0 (some (-1)) = A.length := by
    show (if (-1 : Int) < 0 then (-1 + (vs.length : Int)).toNat else min (-1 : Int).toNat vs.length) = A.length
    rw [if_pos (by decide)]
    omega
  rw [e, HT.sIx_none, hl]
  have := (h.drop A.length).take (A.length + 1 - A.length)
  rw [List.map_append, List.drop_left' (by rw [List.length_map])] at this
  rw [show A.length + 1 - A.length = 1 by omega] at this ⊢
  exact this
open Classical in
/-- what is told while the moved are gone through -/
noncomputable def mixT (W W' : Whr) (zs : List (Int × Str)) : Int → Option Str := fun n => if ∃ e ∈ zs, e.1 = n then txF W' n else txF W n
def spLaw (K : PySem.W.Frag) (Ms : GX.Mq) (Xs : List Addr) (Pi Pg : Addr) : Sp := fun vs H Q _ => ∃ (a : Addr) (ns : List Int), vs = [.ref a] ∧ SqL K H a (ns.map V.int) ∧ ns.length ≤ 63 ∧ GX.TQ Ms Xs H ∧ LamO Ms Pi ∧ Pg ∈ Ms ∧ ∀ H', Q (.bl true) H'
abbrev sLaw : Stmt := topS 42
theorem scLaw : FnScope ["_law_script", "_law_state", "_law_name", "_law_holders", "_law_many", "_law_heap", "_law_where", "_law_day", "_law_case", "_law_turn", "_law_holder", "_law_number", "_law_moved", "_law_deed", "_law_cases", "_law_told_so"] ["_law_script"] (defScope sLaw) := ⟨rfl, rfl, rfl, by decide +kernel, rfl, by decide +kernel, by decide +kernel⟩
section
variable {K : PySem.W.Frag} {mg : Str → Option Value} {P : Program} {w : World} {base : Heap} {Ms : GX.Mq} {Xs : List Addr} {Pi Pg : Addr}
theorem ok_Law {f : Addr} {fd : FuncData} (F : Fun K "law" "law" sLaw f fd) (C__law_begin : Cal P w K mg base 1 "_law_begin" ["_law_script"] (spBegin K)) (C__law_names : Cal P w K mg base 2 "_law_names" ["_law_state", "_law_many"] spNamesB) (C__law_take : Cal P w K mg base 1 "_law_take" ["_law_state", "_law_many"] spTake) (C__law_told : Cal P w K mg base 2 "_law_told" ["_law_state", "_law_where", "_law_holder", "_law_many"] spLTold) (C__law_numbers : Cal P w K mg base 1 "_law_numbers" ["_law_some"] spLNum) (C__law_stands : Cal P w K mg base 7 "_law_stands" ["_law_found", "_law_where", "_law_name", "_law_holders"] (spLStands K)) (C_standing : Cal P w K mg base 8 "standing" ["heap", "day"] (spStanding K Ms Xs Pi)) (C__law_same : Cal P w K mg base 5 "_law_same" ["_law_found", "_law_due"] (spSame 4)) (C_way_of : Cal P w K mg base 8 "way_of" ["heap", "day", "name", "case"] (spWay K Ms Xs Pi Pg)) (m_range : mg "range" = none) (m_dict : mg "dict" = none) (m_len : mg "len" = none) : FnOk P w K mg base CX0 9 f fd ["_law_script"] (spLaw K Ms Xs Pi Pg) := by
  refine F.ok scLaw (fun vs H Q E h => ?_) (fun cdv A outer s H vs Q E hr h => ?_)
  · obtain ⟨a, ns, rfl, _⟩ := h
    rfl
  · obtain ⟨a, ns, rfl, ha, hns, hT, hLm, hGm, q⟩ := h
    refine ⟨_, pss_cons (ps_set (i := 1) scLaw.nd rfl (.inl rfl) (pe_own C__law_begin (hr.mono (show 1 ≤ 8 by decide)) (by rfl) (pa_cons (pv 0) pa_nil)))
      (pss_cons (ps_par3 rfl scLaw.nd (i := 2) (j := 3) (l := 4) rfl rfl rfl (by decide) (by decide) (by decide) rfl rfl rfl (pa_cons (pe_ix ix_list (pe_own C__law_names (hr.mono (show 2 ≤ 8 by decide)) (by rfl) (pa_cons (pv 1) (pa_cons pe_int pa_nil))) pe_int (fun _ _ => rfl)) (pa_cons (pe_own C__law_names (hr.mono (show 2 ≤ 8 by decide)) (by rfl) (pa_cons (pv 1) (pa_cons pe_int pa_nil))) (pa_cons (pe_op op_add pe_int (pe_own C__law_take (hr.mono (show 1 ≤ 8 by decide)) (by rfl) (pa_cons (pv 1) (pa_cons pe_int pa_nil)))) pa_nil))) (by rfl))
      (pss_cons (ps_asg (pe_tup (pa_cons (pe_lst (pa_cons (pe_tup (pa_cons pe_int (pa_cons pe_int (pa_cons (pe_tup (pa_cons pe_str (pa_cons (pv 2) (pa_cons (pv 4) (pa_cons (pe_ix ix_list (pv 3) pe_int (fun _ _ => rfl)) pa_nil))))) pa_nil)))) pa_nil)) (pa_cons pe_dnewK (pa_cons pe_int pa_nil)))) (pg_tup rfl (pgs_cons (pg_name (i := 5) scLaw.nd rfl (.inl rfl)) (pgs_cons (pg_name (i := 6) scLaw.nd rfl (.inr rfl)) (pgs_cons (pg_name (i := 7) scLaw.nd rfl (.inl rfl)) pgs_nil)))))
      (pss_cons (ps_for PassesOwn.never rfl (pi_range1 rfl m_range (pa_cons (pv 4) pa_nil)) (pg_name (i := 8) scLaw.nd rfl (.inl rfl))
        (pss_cons (ps_dput (hu_of hr) (pv 6) (pv 8) (pe_ix ix_list (pv 3) (pe_own C__law_take (hr.mono (show 1 ≤ 8 by decide)) (by rfl) (pa_cons (pv 1) (pa_cons pe_int pa_nil))) (fun _ _ => rfl)) rfl)
        (pss_one (ps_if (pt_cmpR op_ne (pe_dget (hu_of hr) (pv 6) (pv 8) (fun _ _ => rfl)) (pe_ix ix_list (pv 3) pe_int (fun _ _ => rfl)) (nomark _)) (pss_one (ps_expr (pe_bm PySem.F.plainAttrs_list PySem.F.slot_list_append PySem.F.type_list_append mt_append (pv 5) (pa_cons (pe_tup (pa_cons pe_int (pa_cons (pe_op op_add pe_int (pv 8)) (pa_cons (pe_tup (pa_cons pe_str (pa_cons (pe_ix ix_list (pv 3) pe_int (fun _ _ => rfl)) (pa_cons (pe_dget (hu_of hr) (pv 6) (pv 8) (fun _ _ => rfl)) (pa_cons (pv 2) (pa_cons (pv 8) (pa_cons (pv 8) pa_nil))))))) pa_nil)))) pa_nil))))
          pss_nil))))
      (pss_cons (ps_for PassesOwn.never rfl (pi_range1 rfl m_range (pa_cons (pe_op op_add pe_int (pe_own C__law_take (hr.mono (show 1 ≤ 8 by decide)) (by rfl) (pa_cons (pv 1) (pa_cons pe_int pa_nil)))) pa_nil)) (pg_name (i := 9) scLaw.nd rfl (.inl rfl))
        (pss_cons (ps_asg (pe_tup (pa_cons (pe_ix ix_list (pv 3) (pe_own C__law_take (hr.mono (show 1 ≤ 8 by decide)) (by rfl) (pa_cons (pv 1) (pa_cons pe_int pa_nil))) (fun _ _ => rfl)) (pa_cons (pe_op op_add pe_int (pv 9)) (pa_cons pe_dnewK pa_nil)))) (pg_tup rfl (pgs_cons (pg_name (i := 10) scLaw.nd rfl (.inr rfl)) (pgs_cons (pg_name (i := 11) scLaw.nd rfl (.inl rfl)) (pgs_cons (pg_name (i := 12) scLaw.nd rfl (.inl rfl)) pgs_nil)))))
        (pss_cons (ps_set (i := 7) scLaw.nd rfl (.inl rfl) (pe_op op_add (pv 7) (pe_own C__law_take (hr.mono (show 1 ≤ 8 by decide)) (by rfl) (pa_cons (pv 1) (pa_cons pe_int pa_nil)))))
        (Evl.pss_cut (ps_if (pt_cmpR op_eq (pe_own C__law_take (hr.mono (show 1 ≤ 8 by decide)) (by rfl) (pa_cons (pv 1) (pa_cons pe_int pa_nil))) pe_int (nomark _)) (pss_cons (ps_set (i := 13) scLaw.nd rfl (.inr rfl) (pe_tup (pa_cons pe_str (pa_cons (pv 10) (pa_cons (pv 2) (pa_cons pe_int (pa_cons (pe_own C__law_take (hr.mono (show 1 ≤ 8 by decide)) (by rfl) (pa_cons (pv 1) (pa_cons (pv 4) pa_nil))) pa_nil)))))))
          (pss_one (ps_lock (ps_set (i := 12) scLaw.nd rfl (.inl rfl) (pe_callTy (call_dictP rfl) (by rfl) m_dict (by decide +kernel) (pa_cons (pe_lc (own := [("_law_case", 8)]) (g := (gName 8)) (tt := (tAnd (tTest (tOp (rEq) (tDGet (tVar 6) (tVar 8)) (tVar 10))) (tTest (tOp (rI0 fun i j => .bl (decide (i ≤ j))) (tVar 8) (tOp (rIxT K) (tVar 13) (tC (.int 4))))))) (te := (tTup (tCons (tVar 8) (tCons (tC (.str "sold")) tNil)))) rfl scLaw.nd (pi_keys (pv 6)) (blkOk_by (own := [("_law_case", 8)]) (N := ["_law_script", "_law_state", "_law_name", "_law_holders", "_law_many", "_law_heap", "_law_where", "_law_day", "_law_case", "_law_turn", "_law_holder", "_law_number", "_law_moved", "_law_deed", "_law_cases", "_law_told_so"]) (sc := defScope sLaw) (by decide +kernel)) (fun _ _ _ _ _ => (pg_name (i := 8) scLaw.nd rfl (.inl rfl))) (fun _ _ _ _ _ => (pts_one (PW.pt (pw_and (pt_cmpR op_eq (pe_dget (hu_of hr) (pv 6) (pv 8) (fun _ _ => rfl)) (pv 10) (nomark _)) (pw_and1 (pt_cmpR op_le (pv 8) (pe_ix ix_tup (pv 13) pe_int (fun _ _ => rfl)) (nomark _))))))) (fun _ _ _ _ _ => (pe_tup (pa_cons (pv 8) (pa_cons pe_str pa_nil))))) pa_nil))))))
          (pss_cons (ps_set (i := 14) scLaw.nd rfl (.inl rfl) (pe_own C__law_told (hr.mono (show 2 ≤ 8 by decide)) (by rfl) (pa_cons (pv 1) (pa_cons (pv 6) (pa_cons (pv 10) (pa_cons (pv 4) pa_nil))))))
          (pss_cons (ps_asg (pe_tup (pa_cons (pe_tup (pa_cons pe_str (pa_cons (pv 10) (pa_cons (pv 2) (pa_cons (pv 14) pa_nil))))) (pa_cons (pe_own C__law_numbers (hr.mono (show 1 ≤ 8 by decide)) (by rfl) (pa_cons (pv 14) pa_nil)) pa_nil))) (pg_tup rfl (pgs_cons (pg_name (i := 13) scLaw.nd rfl (.inr rfl)) (pgs_cons (pg_name (i := 15) scLaw.nd rfl (.inr rfl)) pgs_nil))))
          (pss_cons (ps_lock (ps_set (i := 12) scLaw.nd rfl (.inl rfl) (pe_callTy (call_dictP rfl) (by rfl) m_dict (by decide +kernel) (pa_cons (pe_lc (own := [("_law_case", 8)]) (g := (gName 8)) (tt := (tAnd (tTest (tOp (rEq) (tDGet (tVar 6) (tVar 8)) (tVar 10))) (tTest (tOp (rIn K true) (tVar 8) (tVar 15))))) (te := (tTup (tCons (tVar 8) (tCons (tC (.str "lacking")) tNil)))) rfl scLaw.nd (pi_keys (pv 6)) (blkOk_by (own := [("_law_case", 8)]) (N := ["_law_script", "_law_state", "_law_name", "_law_holders", "_law_many", "_law_heap", "_law_where", "_law_day", "_law_case", "_law_turn", "_law_holder", "_law_number", "_law_moved", "_law_deed", "_law_cases", "_law_told_so"]) (sc := defScope sLaw) (by decide +kernel)) (fun _ _ _ _ _ => (pg_name (i := 8) scLaw.nd rfl (.inl rfl))) (fun _ _ _ _ _ => (pts_one (PW.pt (pw_and (pt_cmpR op_eq (pe_dget (hu_of hr) (pv 6) (pv 8) (fun _ _ => rfl)) (pv 10) (nomark _)) (pw_and1 (pt_cmpR op_notIn_seq (pv 8) (pv 15) (by rfl))))))) (fun _ _ _ _ _ => (pe_tup (pa_cons (pv 8) (pa_cons pe_str pa_nil))))) pa_nil))))
          (pss_one (ps_expr (pe_bm PySem.F.plainAttrs_dict PySem.F.slot_dict_update PySem.F.type_dict_update (mt_upd rfl) (pv 12) (pa_cons (pe_lc (own := [("_law_case", 8)]) (g := (gName 8)) (tt := (tTest (tOp (rEq) (tDGet2 (tVar 6) (tVar 8) (tC (.str ""))) (tC (.str "lacking!"))))) (te := (tTup (tCons (tVar 8) (tCons (tC (.str "found")) tNil)))) rfl scLaw.nd (pi_list (pv 15)) (blkOk_by (own := [("_law_case", 8)]) (N := ["_law_script", "_law_state", "_law_name", "_law_holders", "_law_many", "_law_heap", "_law_where", "_law_day", "_law_case", "_law_turn", "_law_holder", "_law_number", "_law_moved", "_law_deed", "_law_cases", "_law_told_so"]) (sc := defScope sLaw) (by decide +kernel)) (fun _ _ _ _ _ => (pg_name (i := 8) scLaw.nd rfl (.inl rfl))) (fun _ _ _ _ _ => (pts_one (pt_cmpR op_eq (pe_dget2 (hu_of hr) (pv 6) (pv 8) pe_str ⟨rfl, rfl, rfl, rfl⟩) pe_str (nomark _)))) (fun _ _ _ _ _ => (pe_tup (pa_cons (pv 8) (pa_cons pe_str pa_nil))))) pa_nil))))))))
        (pss_cons (ps_expr (pe_bm PySem.F.plainAttrs_list PySem.F.slot_list_insert PySem.F.type_list_insert mt_insert (pv 5) (pa_cons (pe_own C__law_take (hr.mono (show 1 ≤ 8 by decide)) (by rfl) (pa_cons (pv 1) (pa_cons (pe_op op_add (pe_callB call_len_seq (by rfl) m_len PySem.boot_len (pa_cons (pv 5) pa_nil)) pe_int) pa_nil))) (pa_cons (pe_tup (pa_cons (pv 7) (pa_cons (pv 11) (pa_cons (pv 13) pa_nil)))) pa_nil))))
        (pss_cons (ps_lock (ps_for PassesOwn.never rfl (pi_keys (pv 12)) (pg_name (i := 8) scLaw.nd rfl (.inl rfl))
          (pss_one (ps_dput (hu_of hr) (pv 6) (pv 8) (pe_mid (pe_ifExp (pt_cmpR op_eq (pe_dget (hu_of hr) (pv 12) (pv 8) (fun _ _ => rfl)) pe_str (nomark _)) (pv 10) (pe_op op_add_str (pe_dget (hu_of hr) (pv 12) (pv 8) (fun _ _ => rfl)) pe_str))) rfl))))
        (pss_cons (ps_if (pt_not (pt_val (pe_own C__law_stands (hr.mono (show 7 ≤ 8 by decide)) (by rfl) (pa_cons (pe_own C_standing hr (by rfl) (pa_cons (pv 5) (pa_cons (pv 7) pa_nil))) (pa_cons (pv 6) (pa_cons (pv 2) (pa_cons (pv 3) pa_nil))))))) (pss_one (ps_ret pe_bl))
          pss_nil)
        (pss_one (ps_lock (ps_for PassesOwn.never rfl (pi_keys (pv 12)) (pg_name (i := 8) scLaw.nd rfl (.inl rfl))
          (pss_one (ps_if (pt_not (pt_val (pe_own C__law_same (hr.mono (show 5 ≤ 8 by decide)) (by rfl) (pa_cons (pe_slice sl_list (pe_own C_way_of hr (by rfl) (pa_cons (pv 5) (pa_cons (pv 7) (pa_cons (pv 2) (pa_cons (pv 8) pa_nil))))) (po_some (pe_un un_neg pe_int)) po_none) (pa_cons (pe_lst (pa_cons (pe_tup (pa_cons (pv 11) (pa_cons (pe_dget (hu_of hr) (pv 12) (pv 8) (fun _ _ => rfl)) (pa_cons (pv 10) pa_nil)))) pa_nil)) pa_nil))))) (pss_one (ps_ret pe_bl))
            pss_nil))))))))))))
      (pss_one (ps_ret pe_bl)))))), ?_⟩
    refine ⟨_, rfl, a, ns, rfl, ha, hns, fun d c H1 s1 nd nc S => ?_⟩
    have tq := hT.same s1
    refine ⟨_, rfl, d, c, 0, 1, rfl, S, by omega, by decide, by decide, fun n0 xs0 tA H2 nn0 en0 hx0 hxo tA0 tA1 S2 k2 => ?_⟩
    obtain ⟨x, rfl⟩ : ∃ x, xs0 = [x] := by
      match xs0, hx0 with
      | [x], _ => exact ⟨x, rfl⟩
    refine ⟨n0, _, 0, _, rfl, rfl, SqL.of en0, atI_nat (j := 0) rfl, _, rfl, d, c, tA, 3, rfl, S2, by omega, by decide, by decide, fun ho hs tB H3 nho eho hsl hso tB0 tB1 S3 k3 => ?_⟩
    refine ⟨_, rfl, d, c, tB, 12, rfl, S3, by omega, by decide, by decide, fun r H4 r0 r1 S4 k4 => ⟨1, r, rfl, rfl, ?_⟩⟩
    have tq4 := tq_kpW (tq_kpW (tq_kpW tq S k2) S2 k3) S3 k4
    have oh0 : ho ≠ d ∧ ho ≠ c := S2.off nho
    have eho := k4 _ _ oh0.1 oh0.2 eho
    have hlt := hso.ltr
    obtain ⟨ha0, hb0, hc0, rfl⟩ : ∃ a b c, hs = [a, b, c] := by
      match hs, hsl with
      | [a, b, c], _ => exact ⟨a, b, c, rfl⟩
    refine ⟨_, _, _, rfl, _, rfl, _, rfl, _, rfl, ho, _, 0, _, rfl, rfl, SqL.of eho, atI_nat (j := 0) rfl, by show 4 ≤ sizeLine; decide, fun D0 n0 => ⟨by show 3 ≤ sizeLine; decide, fun T0 nT0 => ⟨by show 1 ≤ sizeLine; decide, fun L nL B nB => ⟨by show 3 ≤ sizeLine; decide, fun T1 nT1 => ⟨T1, _, rfl, .inl (.inl upd_same), rfl, _, _, rfl, _, _, rfl, _, _, rfl, rfl, ?_⟩⟩⟩⟩⟩
    have sD0 := same_upd (o := .tup [V.str "pack", .str x, .int (1 + r), .str ha0]) n0
    have sT0 := same_upd (o := .tup [V.int 0, .int 0, .ref D0]) nT0
    have sL := same_upd (o := .lst [V.ref T0]) nL
    have sB := same_upd (o := .dK []) nB
    have sT1 := same_upd (o := .tup [V.ref L, .ref B, .int 2]) nT1
    have hT0 : ∀ cs : List Addr, Thg cs (upd (upd H4 D0 (.tup [V.str "pack", .str x, .int (1 + r), .str ha0])) T0 (.tup [V.int 0, .int 0, .ref D0])) (.ref T0) (pageD ⟨0, 0, .pack x (1 + r) ha0⟩) := fun cs => ThgL.tup (.cons (.int _) (.cons (.int _) (.one ((deed_new (d := .pack x (1 + r) ha0) rfl rfl).same sT0)))) upd_same
    have s5 := (sL.trans sB).trans sT1
    have s45 := (sD0.trans sT0).trans s5
    have nLH : H4 L = none := (sD0.trans sT0).free nL
    have nBH : H4 B = none := ((sD0.trans sT0).trans sL).free nB
    have LB : L ≠ B := fun z => by rw [← z, upd_same] at nB; cases nB
    have oL := S4.off nLH
    have oB := S4.off nBH
    have al : Al2 Ms Xs d c ho L B [ha0, hb0, hc0] [V.ref T0] [⟨0, 0, .pack x (1 + r) ha0⟩] [] _ (tB + 1) := ⟨S4.same s45, tq4.same s45, s45 _ _ eho, sT1 _ _ (sB _ _ upd_same), (ThgL.one (hT0 _)).same s5, sT1 _ _ upd_same⟩
    have hoL : ho ≠ L := fun z => by rw [z, nLH] at eho; cases eho
    have hoB : ho ≠ B := fun z => by rw [z, nBH] at eho; cases eho
    revert al
    generalize upd (upd (upd (upd (upd H4 D0 (.tup [V.str "pack", .str x, .int (1 + r), .str ha0])) T0 (.tup [V.int 0, .int 0, .ref D0])) L (.lst [V.ref T0])) B (.dK [])) T1 (.tup [V.ref L, .ref B, .int 2]) = H5
    intro al
    have hmr : (((1 + r).toNat : Nat) : Int) = 1 + r := by omega
    clear s5 s45 hT0 sT1 sB sL sT0 sD0 nT1 nB nL nT0 n0 eho S4 S3 S2 k2 k3 k4 tq4
    refine ⟨_, rfl, 1 + r, rfl, by omega, by omega, for_range (n := (1 + r).toNat) (fun j σ Hx => ∃ (t' : Int) (us : List V) (hp : List Page) (W : Whr) (kv : List (L2.Key × V)) (y8 y9 y10 y11 y12 y13 y14 y15 : Option V), σ = [some (.ref a), some (.ref d), some (.str x), some (.ref ho), some (.int (1 + r)), some (.ref L), some (.ref B), some (.int 2), y8, y9, y10, y11, y12, y13, y14, y15] ∧ Al2 Ms Xs d c ho L B [ha0, hb0, hc0] us hp kv Hx t' ∧ Bg x [ha0, hb0, hc0] (1 + r) 1 (1 + (j : Int)) hp W ∧ WD kv (fun n => if n < (j : Int) then txF W n else none) ∧ (∀ n, (j : Int) ≤ n → n < 1 + r → W n = some (.ly ha0)) ∧ hp.length ≤ 1 + j ∧ t' ≤ 100 + j) ?_ (fun j σ Hx hj hP => ?_) (fun σ Hx hP => ?_)⟩
    · refine ⟨tB + 1, _, _, _, [], _, _, _, _, _, _, _, _, rfl, al, (Bg.pack (by omega) (by omega) (by simp) (hlt _ (by simp))).mono (by decide) (by decide), WD.nil.cong fun n => ?_, fun n h1 h2 => ?_, Nat.le_refl _, by omega⟩
      · by_cases c : n < ((0 : Nat) : Int)
        · rw [if_pos c]
          unfold txF ptW
          rw [if_neg (by unfold AskS; omega)]
          rfl
        · rw [if_neg c]
      · unfold ptW
        rw [if_pos (by unfold AskS; omega)]
    · obtain ⟨t', us, hp, W, kv, y8, y9, y10, y11, y12, y13, y14, y15, rfl, al, bg, hkv, hst, hpl, ht'⟩ := hP
      rw [Int.zero_add]
      have hkvl : kv.length ≤ 20 := hkv.few fun n t e => by
        split at e
        · have := (bg.dom n).mp (txF_dom e); omega
        · cases e
      refine ⟨_, rfl, _, rfl, d, c, t', 3, rfl, al.S, by omega, by decide, by decide, fun rr Hy rr0 rr1 Sy ky => ?_⟩
      have al := al.kp ky Sy oh0 oL oB
      obtain ⟨h, hh, eh⟩ := nth_str (ns := [ha0, hb0, hc0]) rr0 rr1
      have hW := hst (j : Int) (Int.le_refl _) (by omega)
      refine ⟨ho, _, rr, _, rfl, rfl, SqL.of al.eh, eh, _, rfl, _, rfl, B, _, rfl, .inl ⟨kv, .inl (j : Int), al.eb, rfl, small1000 (by omega), rfl⟩, ?_⟩
      have wd1 := hkv.put (j : Int) h
      have eB1 := upd_same (H := Hy) (a := B) (o := .dK (putK kv (.inl (j : Int)) (.str h)))
      have al1 := al.put oB hoB LB (putK kv (.inl (j : Int)) (.str h))
      revert eB1 al1
      generalize upd Hy B (.dK (putK kv (.inl (j : Int)) (.str h))) = H6
      intro eB1 al1
      have hg : DGet H6 B (.int (j : Int)) (some (.str h)) := by
        have := wd1.dget (.inl eB1) (j : Int)
        rw [if_pos rfl] at this
        exact this
      have e0 : atI ([ha0, hb0, hc0].map V.str) 0 = some (.str ha0) := atI_nat (j := 0) rfl
      have hl13 : us.length ≤ 14 := by have := al.hu.1; rw [List.length_map] at this; omega
      refine ⟨_, rfl, _, rfl, B, .str h, rfl, hg, _, rfl, ho, _, 0, _, rfl, rfl, SqL.of al1.eh, e0, rfl, _, rfl, ite2 (fun c1 => ?_) (fun c1 => ?_)⟩
      · have c1 : ¬ h = ha0 := fun z => by rw [z] at c1; simp at c1
        refine ⟨_, rfl, .inl ⟨rfl, _, SqL.of al1.el⟩, _, rfl, 1, _, rfl, rfl, _, rfl, ho, _, 0, _, rfl, rfl, SqL.of al1.eh, e0, _, rfl, _, rfl, B, _, rfl, hg, _, rfl, _, rfl, _, rfl, by show 6 ≤ sizeLine; decide, fun D nD => ⟨by show 3 ≤ sizeLine; decide, fun T nT => ⟨L, us, _, rfl, rfl, same_upd nT _ _ (same_upd nD _ _ al1.el), small1000 (by omega), ?_⟩⟩⟩
        have sD := same_upd (o := .tup [V.str "lade", .str ha0, .str h, .str x, .int (j : Int), .int (j : Int)]) nD
        have sT := same_upd (o := .tup [V.int 1, .int (1 + (j : Int)), .ref D]) nT
        have al2 := (al1.same sD).same sT
        have hT : Thg [c, L] _ (.ref T) (pageD ⟨1, 1 + (j : Int), .lade ha0 h x j j⟩) := ThgL.tup (.cons (.int _) (.cons (.int _) (.one ((deed_new (d := .lade ha0 h x j j) rfl rfl).same sT)))) upd_same
        have ov : OneMv x ha0 (j : Int) (.ly h) (.lade ha0 h x j j) := oneMv_lade fun z => c1 z.symm
        have hd : DeedIn [x] [ha0, hb0, hc0] 30 (.lade ha0 h x j j) := ⟨List.mem_singleton.mpr rfl, by simp, hh, by omega, Int.le_refl _, by omega⟩
        refine ⟨t' + 1, us ++ [.ref T], hp ++ [⟨1, 1 + (j : Int), .lade ha0 h x j j⟩], _, _, _, _, _, _, _, _, _, _, rfl, al2.heap oL hoL LB (by rw [List.map_append]; exact al2.hu.append (ThgL.one hT)), bg.snoc (p := ⟨1, 1 + (j : Int), .lade ha0 h x j j⟩) (dy' := 1) (lo' := 1 + ((j + 1 : Nat) : Int)) hlt rfl rfl hd (fun z => c1 z.symm) ⟨hlt _ (by simp), hlt _ hh⟩ (Int.le_refl _) (Int.le_refl _) (by show (0 : Int) ≤ 1; decide) (Int.le_refl _) (by show 1 + (j : Int) < 1 + ((j + 1 : Nat) : Int); omega) (by show 0 ≤ 1 + (j : Int); omega), wd1.cong fun n => ?_, fun n h1 h2 => ?_, by rw [List.length_append]; show hp.length + 1 ≤ _; omega, by omega⟩
        · have hx := ov.txt hW (1 + (j : Int)) n
          by_cases e : n = (j : Int)
          · rw [if_pos e, if_pos (by omega)]
            rw [if_pos e] at hx
            exact hx
          · rw [if_neg e]
            rw [if_neg e] at hx
            by_cases e2 : n < (j : Int)
            · rw [if_pos e2, if_pos (by omega), hx]
            · rw [if_neg e2, if_neg (by omega)]
        · show (doF (1 + (j : Int)) (.lade ha0 h x j j) W).1 n = _
          rw [ov.off _ _ (by omega)]
          exact hst n (by omega) h2
      · have c1 : h = ha0 := Decidable.byContradiction fun z => c1 (by simp [z])
        subst c1
        refine ⟨t' + 1, us, hp, W, _, _, _, _, _, _, _, _, _, rfl, al1, bg.mono (Int.le_refl _) (by omega), wd1.cong fun n => ?_, fun n h1 h2 => hst n (by omega) h2, by omega, by omega⟩
        by_cases e : n = (j : Int)
        · rw [if_pos e, if_pos (by omega), e]
          exact ((txF_ly (hlt _ hh)).mpr hW).symm
        · rw [if_neg e]
          by_cases e2 : n < (j : Int)
          · rw [if_pos e2, if_pos (by omega)]
          · rw [if_neg e2, if_neg (by omega)]
    obtain ⟨t', us, hp, W, kv, y8, y9, y10, y11, y12, y13, y14, y15, rfl, al, bg, hkv, _, hpl, ht'⟩ := hP
    rw [hmr] at hkv bg
    have hkv : WD kv (txF W) := hkv.cong fun n => by
      by_cases e : n < 1 + r
      · rw [if_pos e]
      · rw [if_neg e]
        unfold txF
        cases e2 : W n with
        | none => rfl
        | some s => have := (bg.dom n).mp (by rw [e2]; exact fun z => nomatch z); omega
    have hpl : hp.length ≤ 13 := by omega
    refine ⟨_, rfl, d, c, t', 8, rfl, al.S, by omega, by decide, by decide, fun rn Hy rn0 rn1 Sy ky => ⟨1, rn, rfl, rfl, 1 + rn, rfl, by omega, by omega, for_range (n := (1 + rn).toNat) (fun i σ Hx => ∃ (t' : Int) (us : List V) (hp ps : List Page) (W : Whr) (kv : List (L2.Key × V)) (day : Int) (y8 y9 y10 y11 y12 y13 y14 y15 : Option V), σ = [some (.ref a), some (.ref d), some (.str x), some (.ref ho), some (.int (1 + r)), some (.ref L), some (.ref B), some (.int day), y8, y9, y10, y11, y12, y13, y14, y15] ∧ Al2 Ms Xs d c ho L B [ha0, hb0, hc0] us hp kv Hx t' ∧ Bg x [ha0, hb0, hc0] (1 + r) day (20 + (i : Int)) ps W ∧ hp.Perm ps ∧ WD kv (txF W) ∧ 2 ≤ day ∧ day ≤ 2 + (i : Int) ∧ hp.length ≤ 13 + i ∧ t' ≤ 200 + 100 * (i : Int)) ⟨t' + 1, us, hp, hp, W, kv, 2, _, _, _, _, _, _, _, _, rfl, al.kp ky Sy oh0 oL oB, bg.mono (by decide) (by omega), List.Perm.refl _, hkv, by decide, by decide, hpl, by omega⟩ (fun i σ Hx hi hP => ?_) (fun σ Hx hP => ?_)⟩⟩
    rotate_left
    · obtain ⟨t', us, hp, ps, W, kv, day, y8, y9, y10, y11, y12, y13, y14, y15, rfl, _⟩ := hP
      exact q _
    clear al bg hkv hpl ht' ky Sy
    obtain ⟨t', us, hp, ps, W, kv, day, y8, y9, y10, y11, y12, y13, y14, y15, rfl, al, bg, hperm, hkv, hd0, hd1, hpl, ht'⟩ := hP
    rw [Int.zero_add]
    have hi8 : i < 8 := by omega
    refine ⟨_, rfl, _, rfl, d, c, t', 3, rfl, al.S, by omega, by decide, by decide, fun rh H6 rh0 rh1 S6 k6 => ?_⟩
    have al := al.kp k6 S6 oh0 oL oB
    obtain ⟨h, hh, eh⟩ := nth_str (ns := [ha0, hb0, hc0]) rh0 rh1
    refine ⟨ho, _, rh, _, rfl, rfl, SqL.of al.eh, eh, _, rfl, 20, _, rfl, rfl, fun Mv nMv => ⟨by show 3 ≤ sizeLine; decide, fun Tt nTt => ⟨Tt, _, rfl, .inl (.inl upd_same), rfl, _, _, rfl, _, _, rfl, _, _, rfl, rfl, ?_⟩⟩⟩
    have sMv := same_upd (o := .dK []) nMv
    have sTt := same_upd (o := .tup [V.str h, .int (20 + (i : Int)), .ref Mv]) nTt
    have al := (al.same sMv).same sTt
    have eMv := sTt _ _ (upd_same (H := H6) (a := Mv) (o := .dK []))
    revert al eMv
    generalize upd (upd H6 Mv (.dK [])) Tt (.tup [V.str h, .int (20 + (i : Int)), .ref Mv]) = H7
    intro al eMv
    refine ⟨_, rfl, _, rfl, d, c, t' + 1, 2, rfl, al.S, by omega, by decide, by decide, fun rd H8 rd0 rd1 S8 k8 => ⟨day, rd, rfl, rfl, ?_⟩⟩
    have al := al.kp k8 S8 oh0 oL oB
    have hb20 : ∀ n, W n ≠ none → 0 ≤ n ∧ n < 20 := fun n z => by have := (bg.dom n).mp z; omega
    have hbt : ∀ n t, txF W n = some t → 0 ≤ n ∧ n < 20 := fun n t e => hb20 n (txF_dom e)
    have hkl : kv.length ≤ 20 := hkv.few hbt
    have hhl := hlt h hh
    refine ⟨fun σ' Hx => ∃ (t2 : Int) (D Mv : Addr) (dd : Deed) (kvm : List (L2.Key × V)) (Mf : Int → Option Str) (y8 y14 y15 : Option V), σ' = [some (.ref a), some (.ref d), some (.str x), some (.ref ho), some (.int (1 + r)), some (.ref L), some (.ref B), some (.int (day + rd)), y8, some (.int (i : Int)), some (.str h), some (.int (20 + (i : Int))), some (.ref Mv), some (.ref D), y14, y15] ∧ Al2 Ms Xs d c ho L B [ha0, hb0, hc0] us hp kv Hx t2 ∧ Hx Mv = some (.dK kvm) ∧ WD kvm Mf ∧ Mvd x [ha0, hb0, hc0] (20 + (i : Int)) dd W h Mf ∧ Thg [c, L] Hx (.ref D) (deedD dd) ∧ (Mv ≠ d ∧ Mv ≠ c) ∧ Mv ≠ B ∧ t2 ≤ t' + 80, ?_, fun σ' Hx hM => ?_⟩
    · refine ⟨_, rfl, d, c, t' + 1 + 1, 5, rfl, al.S, by omega, by decide, by decide, fun rs H9 rs0 rs1 S9 k9 => ⟨rfl, _, rfl, ite2 (fun c1 => ?_) (fun c1 => ?_)⟩⟩
      all_goals have al := al.kp k9 S9 oh0 oL oB
      · refine ⟨_, rfl, _, rfl, _, rfl, _, rfl, d, c, t' + 1 + 1 + 1, 1 + r, rfl, al.S, by omega, by omega, by omega, fun b HA b0 b1 SA kA => ⟨by show 5 ≤ sizeLine; decide, fun D nD => ?_⟩⟩
        have al := al.kp kA SA oh0 oL oB
        have sD := same_upd (o := .tup [V.str "sell", .str h, .str x, .int 0, .int b]) nD
        have al := al.same sD
        have eD := upd_same (H := HA) (a := D) (o := .tup [V.str "sell", .str h, .str x, .int 0, .int b])
        revert al eD
        generalize upd HA D (.tup [V.str "sell", .str h, .str x, .int 0, .int b]) = HB
        intro al eD
        obtain ⟨zs, hzk, hzs⟩ := hkv.list
        have BD : D ≠ B := fun z => by have e' := al.eb; rw [← z, eD] at e'; cases e'
        refine ⟨B, _, al.eb, True.intro, fun od => ?_⟩
        have ewf := upd_same (H := HB) (a := B) (o := .frz od (.dK kv))
        have eDf : upd HB B (.frz od (.dK kv)) D = some (.tup [V.str "sell", .str h, .str x, .int 0, .int b]) := by rw [upd_ne BD]; exact eD
        have su : ∀ H', Same (upd HB B (.frz od (.dK kv))) H' → Same HB (upd H' B (.dK kv)) := fun H' s' => same_unlock al.eb s'
        revert ewf eDf su
        generalize upd HB B (.frz od (.dK kv)) = Hf
        intro ewf eDf su
        refine ⟨_, rfl, B, od, rfl, .inl ⟨_, ewf, fun D2 nD2 => lc_sel zs (fun z => decide (z.2 = h) && decide (z.1 ≤ b)) (fun z => pairSD (z.1, "sold")) walk_keys [] nD2 (by rw [hzk, List.length_map]) (by omega) (fun H' s' => s' _ _ ewf) (fun i2 v z H' H'' Kt Kn ez sm hws hy kt kn => ?_) (fun H' ws s' eD2 hws => ?_)⟩⟩
        · obtain ⟨rfl, k, v', ek, rfl⟩ := hy
          rw [hzk, List.getElem?_map, ez] at ek
          cases ek
          have hm : txF W z.1 = some z.2 := (hzs z.1 z.2).mp (List.mem_of_getElem? ez)
          have hg := hkv.dget (H := H'') (a := B) (.inr ⟨od, sm _ _ ewf⟩) z.1
          rw [hm] at hg
          refine ⟨rfl, _, rfl, _, rfl, B, .str z.2, rfl, hg, _, rfl, rfl, _, rfl, ite2 (fun c2 => ?_) (fun c2 => ?_)⟩
          · have c2 : z.2 = h := V.str.inj (of_decide_eq_true c2)
            refine ⟨_, rfl, _, rfl, D, _, 4, _, rfl, rfl, .inl (.inl (sm _ _ eDf)), rfl, z.1, b, rfl, rfl, _, rfl, ite2 (fun c3 => ?_) (fun c3 => ?_)⟩
            · have c3 : z.1 ≤ b := of_decide_eq_true c3
              refine ⟨_, rfl, by show 2 ≤ sizeLine; decide, fun T nT => kt (by simp [c2, c3]) _ _ (same_upd nT) ?_⟩
              exact ThgL.tup (.cons (.int _) (.one (.str _))) upd_same
            · have c3 : ¬ z.1 ≤ b := fun y => c3 (decide_eq_true y)
              exact kn (by simp [c3]) _ (Same.refl _)
          · have c2 : ¬ z.2 = h := fun e => c2 (decide_eq_true (congrArg V.str e))
            exact kn (by simp [c2]) _ (Same.refl _)
        · rw [show ((zs.filter fun z => decide (z.2 = h) && decide (z.1 ≤ b)).map fun z => pairSD (z.1, ("sold" : Str))) = ((zs.filter fun z => decide (z.2 = h) && decide (z.1 ≤ b)).map fun z => (z.1, ("sold" : Str))).map pairSD by rw [List.map_map]; rfl] at hws
          obtain ⟨as, rfl, hpp⟩ := pairs_thg (K := K) hws
          refine ⟨D2, as, _, rfl, SqL.of eD2, hpp, fun p np => ?_⟩
          have spp := same_upd (o := .dK (mergeK [] (((zs.filter fun z => decide (z.2 = h) && decide (z.1 ≤ b)).map fun z => (z.1, ("sold" : Str))).map kvS))) np
          have sF := su _ (s'.trans spp)
          have pB : p ≠ B := fun z => by rw [z, s' _ _ ewf] at np; cases np
          have eD9 := sF _ _ eD
          have npH : HB p = none := by
            cases e : HB p with
            | none => rfl
            | some o =>
              have := (su _ s') _ _ e
              rw [upd_ne pB, np] at this
              cases this
          refine ⟨spp _ _ (s' _ _ ewf), t' + 1 + 1 + 1 + 1, D, p, .sell h x 0 b, _, _, _, _, _, rfl, al.same sF, by rw [upd_ne pB]; exact upd_same, WD.merge _ WD.nil (fun q hq => ?_) (fun n hn => ?_), mvd_sell hhl hh b0 (by omega) bg.dom (by omega), deed_at (d := .sell h x 0 b) eD9 rfl, al.S.off npH, pB, by omega⟩
          · obtain ⟨z, hz, rfl⟩ := List.mem_map.mp hq
            obtain ⟨z1, z2⟩ := List.mem_filter.mp hz
            have z3 : z.2 = h ∧ z.1 ≤ b := by simpa using z2
            have z4 := (hzs z.1 z.2).mp z1
            rw [z3.1, txF_ly hhl] at z4
            exact if_pos ⟨z4, z3.2⟩
          · refine if_neg fun z => ?_
            exact hn (n, "sold") (List.mem_map.mpr ⟨(n, h), List.mem_filter.mpr ⟨(hzs n h).mpr ((txF_ly hhl).mpr z.1), by simp [z.2]⟩, rfl⟩) rfl
      · refine ⟨_, rfl, _, rfl, _, rfl, _, rfl, d, c, B, t' + 1 + 1 + 1, 1 + r, h, kv, _, rfl, al.S, by omega, al.eb, hkv, hbt, by omega, by omega, oB.1, fun l rs t4 HA nl hls hr hrb t40 t41 SA kA => ?_⟩
        have nlc : l ≠ c := fun z => by obtain ⟨_, e, _⟩ := al.S.cells; rw [z, e] at nl; cases nl
        have nlL : l ≠ L := fun z => by rw [z, al.el] at nl; cases nl
        have al := al.kp kA SA oh0 oL oB
        obtain ⟨us2, el2, hus2⟩ := hls
        obtain ⟨lo, hrs⟩ := hr
        have hln : (rs.flatMap rgI).length ≤ 30 := by
          have := sub_len (up_nodup (rgIs_up hrs)) (ys := rgI (0, 29)) fun k hk => rgI_mem.mpr (by have := hrb k (rgIs_mem.mp hk); show (0 : Int) ≤ k ∧ k ≤ 29; omega)
          rwa [rgI_len] at this
        have hbd : ∀ p ∈ rs, -1000 ≤ p.1 ∧ p.1 ≤ p.2 ∧ p.2 ≤ 1000 := fun p hp2 => by
          have h1 := (Ris.le hrs p hp2).2
          have h2 := hrb p.1 ⟨p, hp2, Int.le_refl _, h1⟩
          have h3 := hrb p.2 ⟨p, hp2, h1, Int.le_refl _⟩
          omega
        refine ⟨_, rfl, _, rfl, _, rfl, by show 4 ≤ sizeLine; decide, fun D nD => ?_⟩
        have sD := same_upd (o := .tup [V.str "tell", .str h, .str x, .ref l]) nD
        have al := al.same sD
        have hD : Thg [c, L] (upd HA D (.tup [V.str "tell", .str h, .str x, .ref l])) (.ref D) (deedD (.tell h x rs)) := ThgL.tup (.cons (.str _) (.cons (.str _) (.cons (.str _) (.one ((prs_thg (hus2.same sD)).lst (sD _ _ el2) (by simp [nlc, nlL])))))) upd_same
        have el2 := sD _ _ el2
        have hus2 := hus2.same sD
        revert al hD el2 hus2
        generalize upd HA D (.tup [V.str "tell", .str h, .str x, .ref l]) = HB
        intro al hD el2 hus2
        refine ⟨_, rfl, l, us2, rs, rfl, .inl el2, hus2, by omega, hbd, fun u0 HC nu eu sC => ⟨by show 2 ≤ sizeLine; decide, fun T nT => ⟨T, _, rfl, .inl (.inl upd_same), rfl, _, _, rfl, _, _, rfl, rfl, ?_⟩⟩⟩
        have us_mem : ∀ n, n ∈ rs.flatMap rgI ↔ InS rs n := fun n => rgIs_mem
        have sT := same_upd (o := .tup [V.ref D, .ref u0]) nT
        have al := (al.same sC).same sT
        have hD := (hD.same sC).same sT
        have eu := sT _ _ eu
        have nuB : u0 ≠ B := fun z => by have e := al.eb; rw [← z, eu] at e; cases e
        revert al hD eu us_mem hln
        generalize upd HC T (.tup [V.ref D, .ref u0]) = HD
        generalize rs.flatMap rgI = ks
        intro hln us_mem al hD eu
        obtain ⟨zs, hzk, hzs⟩ := hkv.list
        refine ⟨B, _, al.eb, True.intro, fun od => ?_⟩
        have ewf := upd_same (H := HD) (a := B) (o := .frz od (.dK kv))
        have euf : upd HD B (.frz od (.dK kv)) u0 = some (.lst (ks.map V.int)) := by rw [upd_ne nuB]; exact eu
        have su : ∀ H', Same (upd HD B (.frz od (.dK kv))) H' → Same HD (upd H' B (.dK kv)) := fun H' s' => same_unlock al.eb s'
        revert ewf euf su
        generalize upd HD B (.frz od (.dK kv)) = Hf
        intro ewf euf su
        refine ⟨_, rfl, B, od, rfl, .inl ⟨_, ewf, fun D2 nD2 => lc_sel zs (fun z => decide (z.2 = h) && !decide (z.1 ∈ ks)) (fun z => pairSD (z.1, "lacking")) walk_keys [] nD2 (by rw [hzk, List.length_map]) (by omega) (fun H' s' => s' _ _ ewf) (fun i2 v z H' H'' Kt Kn ez sm hws hy kt kn => ?_) (fun H' ws s' eD2 hws => ?_)⟩⟩
        · obtain ⟨rfl, k, v', ek, rfl⟩ := hy
          rw [hzk, List.getElem?_map, ez] at ek
          cases ek
          have hm : txF W z.1 = some z.2 := (hzs z.1 z.2).mp (List.mem_of_getElem? ez)
          have hg := hkv.dget (H := H'') (a := B) (.inr ⟨od, sm _ _ ewf⟩) z.1
          rw [hm] at hg
          refine ⟨rfl, _, rfl, _, rfl, B, .str z.2, rfl, hg, _, rfl, rfl, _, rfl, ite2 (fun c2 => ?_) (fun c2 => ?_)⟩
          · have c2 : z.2 = h := V.str.inj (of_decide_eq_true c2)
            refine ⟨_, rfl, _, rfl, u0, _, rfl, .inl (SqL.of (sm _ _ euf)), rfl, (by rw [List.all_map, List.all_eq_true]; exact fun _ _ => rfl), _, rfl, ite2 (fun c3 => ?_) (fun c3 => ?_)⟩
            · have c3 : ¬ z.1 ∈ ks := fun y => by
                have e := inV_ints.mpr y
                have c3 : (!inV (.int z.1) (ks.map V.int)) = true := c3
                rw [e] at c3
                cases c3
              refine ⟨_, rfl, by show 2 ≤ sizeLine; decide, fun T nT => kt (by simp [c2, c3]) _ _ (same_upd nT) ?_⟩
              exact ThgL.tup (.cons (.int _) (.one (.str _))) upd_same
            · have c3 : z.1 ∈ ks := inV_ints.mp (Decidable.byContradiction fun y => c3 (show (!inV (.int z.1) (ks.map V.int)) = true by rw [Bool.eq_false_iff.mpr y]; rfl))
              exact kn (by simp [c3]) _ (Same.refl _)
          · have c2 : ¬ z.2 = h := fun e => c2 (decide_eq_true (congrArg V.str e))
            exact kn (by simp [c2]) _ (Same.refl _)
        rw [show ((zs.filter fun z => decide (z.2 = h) && !decide (z.1 ∈ ks)).map fun z => pairSD (z.1, ("lacking" : Str))) = ((zs.filter fun z => decide (z.2 = h) && !decide (z.1 ∈ ks)).map fun z => (z.1, ("lacking" : Str))).map pairSD by rw [List.map_map]; rfl] at hws
        obtain ⟨as, rfl, hpp⟩ := pairs_thg (K := K) hws
        refine ⟨D2, as, _, rfl, SqL.of eD2, hpp, fun p np => ?_⟩
        have wd1 : WD (mergeK [] (((zs.filter fun z => decide (z.2 = h) && !decide (z.1 ∈ ks)).map fun z => (z.1, ("lacking" : Str))).map kvS)) (lkM W h rs) := WD.merge _ WD.nil (fun q hq => by
            obtain ⟨z, hz, rfl⟩ := List.mem_map.mp hq
            obtain ⟨z1, z2⟩ := List.mem_filter.mp hz
            have z3 : z.2 = h ∧ ¬ z.1 ∈ ks := by simpa using z2
            have z4 := (hzs z.1 z.2).mp z1
            rw [z3.1, txF_ly hhl] at z4
            exact if_pos ⟨z4, fun y => z3.2 ((us_mem _).mpr y)⟩) fun n hn => by
            refine if_neg fun z => ?_
            have : ¬ n ∈ ks := fun y => z.2 ((us_mem _).mp y)
            exact hn (n, "lacking") (List.mem_map.mpr ⟨(n, h), List.mem_filter.mpr ⟨(hzs n h).mpr ((txF_ly hhl).mpr z.1), by simp [this]⟩, rfl⟩) rfl
        revert wd1
        generalize mergeK [] (((zs.filter fun z => decide (z.2 = h) && !decide (z.1 ∈ ks)).map fun z => (z.1, ("lacking" : Str))).map kvS) = kv1
        intro wd1
        have spp := same_upd (o := .dK kv1) np
        have sF := su _ (s'.trans spp)
        have pB : p ≠ B := fun z => by rw [z, s' _ _ ewf] at np; cases np
        have npH : HD p = none := by
          cases e : HD p with
          | none => rfl
          | some o =>
            have := (su _ s') _ _ e
            rw [upd_ne pB, np] at this
            cases this
        refine ⟨spp _ _ (s' _ _ ewf), ?_⟩
        have op := al.S.off npH
        have al := al.same sF
        have hD := hD.same sF
        have eu := sF _ _ eu
        have ep : upd (upd H' p (.dK kv1)) B (.dK kv) p = some (.dK kv1) := by rw [upd_ne pB]; exact upd_same
        revert al hD eu ep
        generalize upd (upd H' p (.dK kv1)) B (.dK kv) = HE
        intro al hD eu ep
        refine ⟨_, rfl, .inr (.inr (.inl ⟨rfl, .inl ⟨_, ep⟩⟩)), _, rfl, u0, rfl, ⟨_, SqL.of eu⟩, fun D5 nD5 => lc_sel ks (fun n => decide (txF W n = some ("lacking!" : Str))) (fun n => pairSD (n, "found")) walk_list [] nD5 (by rw [List.length_map]) (by rw [List.length_map]; omega) (fun H' s' => SqL.of (s' _ _ eu)) (fun i2 v n H1' H'' Kt Kn en sm hws' hy kt kn => ?_) (fun H5' ws5 s5 eD5 hws5 => ?_)⟩
        · obtain ⟨rfl, hv⟩ := hy
          rw [List.getElem?_map, en] at hv
          cases hv
          obtain ⟨u, hu, hiff⟩ := txF_get W n
          have h2 := (hiff.2 bg.ltr).trans (txF_lk bg.ltr).symm
          refine ⟨rfl, _, rfl, B, rfl, .inl ⟨kv, .inl (sm _ _ al.eb)⟩, _, rfl, _, hkv.dget (.inl (sm _ _ al.eb)) n, (by rw [hu]; rfl), _, rfl, ite2 (fun c2 => ?_) (fun c2 => ?_)⟩
          · rw [hu] at c2
            have c2 := h2.mp (V.str.inj (of_decide_eq_true c2))
            refine ⟨_, rfl, by show 2 ≤ sizeLine; decide, fun T nT => kt (decide_eq_true c2) _ _ (same_upd nT) ?_⟩
            exact ThgL.tup (.cons (.int _) (.one (.str _))) upd_same
          · rw [hu] at c2
            have c2 : ¬ txF W n = some ("lacking!" : Str) := fun e => c2 (decide_eq_true (congrArg V.str (h2.mpr e)))
            exact kn (decide_eq_false c2) _ (Same.refl _)
        rw [show ((ks.filter fun n => decide (txF W n = some ("lacking!" : Str))).map fun n => pairSD (n, ("found" : Str))) = ((ks.filter fun n => decide (txF W n = some ("lacking!" : Str))).map fun n => (n, ("found" : Str))).map pairSD by rw [List.map_map]; rfl] at hws5
        obtain ⟨as5, rfl, hpp5⟩ := pairs_thg (K := K) hws5
        have ep5 := s5 _ _ ep
        have hk1 : kv1.length ≤ 20 := wd1.few fun n t e => by
          unfold lkM at e
          split at e
          · rename_i c; exact hb20 n (by rw [c.1]; exact fun z => nomatch z)
          · cases e
        have hfl := List.length_filter_le (fun n => decide (txF W n = some ("lacking!" : Str))) ks
        refine ⟨p, D5, kv1, as5, _, rfl, rfl, ep5, SqL.of eD5, hpp5, by rw [List.length_map, List.length_map, sizeLine_eq]; omega, t4, D, p, .tell h x rs, _, _, _, _, _, rfl, (al.same s5).offK ep5 op pB, upd_same, WD.merge _ wd1 (fun q hq => ?_) (fun n hn => ?_), mvd_tell hhl hh ⟨lo, hrs⟩ hrb bg.dom (by omega), (hD.same s5).dict2 ep5, op, pB, by omega⟩
        · obtain ⟨n, hn, rfl⟩ := List.mem_map.mp hq
          obtain ⟨z1, z2⟩ := List.mem_filter.mp hn
          exact if_pos ⟨(txF_lk bg.ltr).mp (of_decide_eq_true z2), (us_mem n).mp z1⟩
        · unfold tellM lkM
          rw [if_neg fun z => ?_]
          exact hn (n, "found") (List.mem_map.mpr ⟨n, List.mem_filter.mpr ⟨(us_mem n).mpr z.2, decide_eq_true ((txF_lk bg.ltr).mpr z.1)⟩, rfl⟩) rfl
    clear al eMv k8 S8 k6 S6 eh
    obtain ⟨t2, D, Mv, dd, kvm, Mf, y8, y14, y15, rfl, al, eMv, wdm, mv, hD, om, mb, ht2⟩ := hM
    have hul := al.hu.1
    rw [List.length_map] at hul
    refine ⟨_, rfl, .inl ⟨rfl, _, SqL.of al.el⟩, _, rfl, _, rfl, L, us, rfl, .inl (SqL.of al.el), us.length, 1, rfl, rfl, d, c, t2, (us.length : Int) + 1, rfl, al.S, by omega, by omega, by omega, fun ri HF ri0 ri1 SF kF => ?_⟩
    have hD := hD.kp al.S kF (List.mem_cons_self ..)
    have al := al.kp kF SF oh0 oL oB
    have eMv := kF _ _ om.1 om.2 eMv
    refine ⟨_, rfl, _, rfl, _, rfl, by show 3 ≤ sizeLine; decide, fun T nT => ⟨L, us, ri, .ref T, rfl, rfl, same_upd nT _ _ al.el, small1000 (by omega), ri0, by omega, ?_⟩⟩
    have sT := same_upd (o := .tup [V.int (day + rd), .int (20 + (i : Int)), .ref D]) nT
    have hT : Thg [c, L] _ (.ref T) (pageD ⟨day + rd, 20 + (i : Int), dd⟩) := ThgL.tup (.cons (.int _) (.cons (.int _) (.one (hD.same sT)))) upd_same
    have al := al.same sT
    have eMv := sT _ _ eMv
    have hoL' := al.heap oL hoL LB (us' := us.take ri.toNat ++ [.ref T] ++ us.drop ri.toNat) (hp' := hp.take ri.toNat ++ [(⟨day + rd, 20 + (i : Int), dd⟩ : Page)] ++ hp.drop ri.toNat) (by
      rw [List.map_append, List.map_append, List.map_take, List.map_drop]
      exact ((al.hu.take _).append (ThgL.one hT)).append (al.hu.drop _))
    have mL : Mv ≠ L := fun z => by have e := al.el; rw [← z, eMv] at e; cases e
    have eMv : upd (upd HF T (.tup [V.int (day + rd), .int (20 + (i : Int)), .ref D])) L (.lst (us.take ri.toNat ++ [.ref T] ++ us.drop ri.toNat)) Mv = some (.dK kvm) := by rw [upd_ne mL]; exact eMv
    have hperm' : (hp.take ri.toNat ++ [(⟨day + rd, 20 + (i : Int), dd⟩ : Page)] ++ hp.drop ri.toNat).Perm (ps ++ [(⟨day + rd, 20 + (i : Int), dd⟩ : Page)]) := pp_perm.trans (((List.Perm.cons _ hperm)).trans (List.perm_append_singleton _ ps).symm)
    have hpl' : (hp.take ri.toNat ++ [(⟨day + rd, 20 + (i : Int), dd⟩ : Page)] ++ hp.drop ri.toNat).length ≤ 13 + (i + 1) := by
      rw [hperm'.length_eq, List.length_append, ← hperm.length_eq]
      show hp.length + 1 ≤ _
      omega
    revert hoL' eMv hperm' hpl'
    clear al
    generalize upd (upd HF T (.tup [V.int (day + rd), .int (20 + (i : Int)), .ref D])) L (.lst (us.take ri.toNat ++ [.ref T] ++ us.drop ri.toNat)) = HG
    generalize us.take ri.toNat ++ [.ref T] ++ us.drop ri.toNat = us'
    generalize hp.take ri.toNat ++ [(⟨day + rd, 20 + (i : Int), dd⟩ : Page)] ++ hp.drop ri.toNat = hp'
    intro al eMv hperm' hpl'
    have bg' := bg.snoc (p := ⟨day + rd, 20 + (i : Int), dd⟩) (dy' := day + rd) (lo' := 20 + ((i + 1 : Nat) : Int)) hlt mv.np mv.nbk mv.deed mv.dn mv.lt (by show day ≤ day + rd; omega) (Int.le_refl _) (by show 0 ≤ day + rd; omega) (Int.le_refl _) (by show 20 + (i : Int) < 20 + ((i + 1 : Nat) : Int); omega) (by show 0 ≤ 20 + (i : Int); omega)
    obtain ⟨ss, hgo⟩ := bg.go
    have hgo' : goF [] (ps ++ [⟨day + rd, 20 + (i : Int), dd⟩]) = ([(x, (doF (20 + (i : Int)) dd W).1)], ss ++ [⟨20 + (i : Int), x, "done", (doF (20 + (i : Int)) dd W).2.1, (doF (20 + (i : Int)) dd W).2.2⟩]) := by
      rw [goF_snoc, hgo, pg_one (List.mem_singleton.mp (nam_in mv.deed)) mv.dn]
    have bg' : Bg x [ha0, hb0, hc0] (1 + r) (day + rd) (20 + ((i + 1 : Nat) : Int)) (ps ++ [⟨day + rd, 20 + (i : Int), dd⟩]) (doF (20 + (i : Int)) dd W).1 := bg'
    have htx := mv.txt
    have hput := mv.put
    have hwl := mv.wds
    have hdm := mv.dom
    have hstp : (⟨20 + (i : Int), x, "done", (doF (20 + (i : Int)) dd W).2.1, (doF (20 + (i : Int)) dd W).2.2⟩ : StepT).nam = x := rfl
    revert bg' hgo' htx hput hstp
    generalize (doF (20 + (i : Int)) dd W).1 = W'
    generalize (⟨20 + (i : Int), x, "done", (doF (20 + (i : Int)) dd W).2.1, (doF (20 + (i : Int)) dd W).2.2⟩ : StepT) = stp
    intro hgo' bg' htx hput hstp
    clear mv hT sT nT hD
    obtain ⟨zm, hzk, hzm⟩ := wdm.list
    have hkm : kvm.length ≤ 20 := wdm.few fun n t e => hb20 n (hdm n t e)
    refine ⟨Mv, _, eMv, True.intro, fun od => ?_⟩
    have al := al.offK (o := .frz od (.dK kvm)) eMv om mb
    have eMf := upd_same (H := HG) (a := Mv) (o := .frz od (.dK kvm))
    revert al eMf
    generalize upd HG Mv (.frz od (.dK kvm)) = Hf
    intro al eMf
    refine ⟨_, rfl, Mv, od, rfl, .inl ⟨_, eMf, for_it walk_keys (fun j σ Hy => ∃ (kvj : List (L2.Key × V)) (y8 : Option V), σ = [some (.ref a), some (.ref d), some (.str x), some (.ref ho), some (.int (1 + r)), some (.ref L), some (.ref B), some (.int (day + rd)), y8, some (.int (i : Int)), some (.str h), some (.int (20 + (i : Int))), some (.ref Mv), some (.ref D), y14, y15] ∧ Al2 Ms Xs d c ho L B [ha0, hb0, hc0] us' hp' kvj Hy (t2 + 1) ∧ Hy Mv = some (.frz od (.dK kvm)) ∧ WD kvj (mixT W W' (zm.take j))) ⟨kv, _, rfl, al, eMf, hkv.cong fun n => (if_neg fun ⟨e, z, _⟩ => nomatch z).symm⟩ (fun j σ Hy _ hP => by obtain ⟨_, _, rfl, _, e, _⟩ := hP; exact e) (fun j v σ Hy Hy' hj hP hy => ?_) (fun σ Hy hP => ?_)⟩⟩
    · obtain ⟨kvj, y8, rfl, al, eMf, hkvj⟩ := hP
      obtain ⟨rfl, k, v', ek, rfl⟩ := hy
      rw [hzk, List.getElem?_map] at ek
      obtain ⟨z, ez, e⟩ := Option.map_eq_some_iff.mp ek
      cases e
      have hMz : Mf z.1 = some z.2 := (hzm z.1 z.2).mp (List.mem_of_getElem? ez)
      have hg := wdm.dget (H := Hy') (a := Mv) (.inr ⟨od, eMf⟩) z.1
      rw [hMz] at hg
      have hwz := hwl _ _ hMz
      have etk : zm.take (j + 1) = zm.take j ++ [z] := by rw [List.take_add_one, ez]; rfl
      have hjl : kvj.length ≤ 20 := hkvj.few fun n t e => by
        unfold mixT at e
        split at e
        · have := (bg'.dom n).mp (txF_dom e); omega
        · exact hbt n t e
      refine ⟨fun v H' => v = .str (if z.2 = "found" then h else z.2 ++ "!") ∧ H' = Hy', ?_, fun v H' hv => ?_⟩
      · refine ⟨_, rfl, _, rfl, Mv, .str z.2, rfl, hg, rfl, _, rfl, ite2 (fun c1 => ?_) (fun c1 => ?_)⟩
        · have c1 : z.2 = "found" := V.str.inj (of_decide_eq_true c1)
          exact ⟨_, rfl, by rw [if_pos c1], rfl⟩
        · have c1 : ¬ z.2 = "found" := fun e => c1 (decide_eq_true (congrArg V.str e))
          exact ⟨_, rfl, _, rfl, Mv, .str z.2, rfl, hg, z.2, "!", rfl, rfl, by rw [sizeLine_eq]; show z.2.length + 1 ≤ _; omega, by rw [if_neg c1], rfl⟩
      obtain ⟨rfl, rfl⟩ := hv
      refine ⟨_, rfl, _, rfl, B, _, rfl, .inl ⟨kvj, .inl z.1, al.eb, rfl, small1000 (by omega), rfl⟩, _, _, rfl, al.put oB hoB LB _, by rw [upd_ne mb]; exact eMf, (hkvj.put _ _).cong fun n => ?_⟩
      rw [etk]
      unfold mixT
      by_cases e : n = z.1
      · have e1 : (if ∃ e ∈ zm.take j ++ [z], e.1 = n then txF W' n else txF W n) = txF W' n := if_pos ⟨z, List.mem_append_right _ (List.mem_singleton.mpr rfl), e.symm⟩
        rw [e1, if_pos e, e]
        exact ((htx z.1).2 z.2 hMz).symm
      · rw [if_neg e]
        by_cases c2 : ∃ e ∈ zm.take j, e.1 = n
        · obtain ⟨e', z1, z2⟩ := c2
          rw [if_pos ⟨e', z1, z2⟩, if_pos ⟨e', List.mem_append_left _ z1, z2⟩]
        · rw [if_neg c2, if_neg]
          rintro ⟨e', z1, z2⟩
          rcases List.mem_append.mp z1 with z3 | z3
          · exact c2 ⟨e', z3, z2⟩
          · rw [List.mem_singleton.mp z3] at z2; exact e z2.symm
    obtain ⟨kv', y8', rfl, al, eMf, hkv'⟩ := hP
    have hkv' : WD kv' (txF W') := hkv'.cong fun n => by
      rw [hzk, List.length_map, List.take_length]
      unfold mixT
      by_cases c2 : ∃ e ∈ zm, e.1 = n
      · rw [if_pos c2]
      · rw [if_neg c2]
        refine ((htx n).1 ?_).symm
        cases e : Mf n with
        | none => rfl
        | some t => exact absurd ⟨(n, t), (hzm n t).mpr e, rfl⟩ c2
    refine ⟨eMf, ?_⟩
    have al := al.offF (o := .dK kvm) eMf om mb
    have eMv := upd_same (H := Hy) (a := Mv) (o := .dK kvm)
    revert al eMv
    generalize upd Hy Mv (.dK kvm) = HI
    intro al eMv
    have hmemp : ∀ p ∈ hp', p ∈ ps ++ [(⟨day + rd, 20 + (i : Int), dd⟩ : Page)] := fun p hp => hperm'.mem_iff.mp hp
    have hfit : ∀ p ∈ hp', p.deed.Fit E91 (SPs [ha0, hb0, hc0]) p.num := fun p hp => fit_in (bg'.deed p (hmemp p hp)) (by omega) (by have := bg'.num p (hmemp p hp); omega)
    have hhn : ∀ p ∈ hp', p.deed.nam ∈ [x] := fun p hp => nam_in (bg'.deed p (hmemp p hp))
    have hsl : (SPs [ha0, hb0, hc0]).length ≤ 66 := by rw [SPs_len]; show 3 + 63 ≤ 66; omega
    have hio : ∀ out, InO (hp'.filter fun p => decide (p.day ≤ day + rd)) out → out = ps ++ [(⟨day + rd, 20 + (i : Int), dd⟩ : Page)] := fun out hO => by
      rw [List.filter_eq_self.mpr fun p hp => decide_eq_true (bg'.day p (hmemp p hp)).2] at hO
      refine InO.one (ps := hp') hO ⟨hperm'.symm, bg'.up⟩ ?_
      have h1 : (hp'.map (·.num)).Nodup := (hperm'.map _).nodup_iff.mpr bg'.nd
      have : ((hp'.map fun p => (p.day, p.num)).map (·.2)).Nodup := by rw [List.map_map]; exact h1
      exact nodup_of_map' this
    have hb20' : ∀ n, W' n ≠ none → 0 ≤ n ∧ n < 20 := fun n z => by have := (bg'.dom n).mp z; omega
    refine ⟨_, rfl, _, rfl, L, us', day + rd, hp', E91, SPs [ha0, hb0, hc0], [x], rfl, .inl al.el, al.hu.pages, al.tq, hLm, E91_len, by omega, hfit, by omega, by show 1 < 64; decide, by show 1 * _ ≤ 900; omega, hhn, fun Fa out d1 d2 d3 d4 HJ nFa hO hSt hSm hF nJ tqJ => ?_⟩
    obtain rfl := hio out hO
    have al := al.noTab nJ tqJ
    have eMv := nJ.keep _ _ eMv (fun _ z => nomatch z)
    obtain ⟨la, hLy, rfl⟩ := hSt.ly
    obtain ⟨ea, hEn, rfl⟩ := hSt.en
    rw [hgo'] at hLy hEn
    refine ⟨_, rfl, _, rfl, _, rfl, Fa, B, ho, x, [ha0, hb0, hc0], W', kv', la, ea, d3, d4, rfl, hF, hLy, hEn, hSm.s1, hSm.s2, al.eb, hkv', bg'.ltr, hb20', bg'.hin, bg'.nb, al.eh, hso, rfl, fun HK sK => ⟨_, rfl, iteF (A := True) ?_⟩⟩
    have al := al.same sK
    have eMv := sK _ _ eMv
    clear hF hSt hSm hLy hEn hO sK nJ tqJ
    refine ⟨Mv, _, eMv, True.intro, fun od2 => ?_⟩
    have al := al.offK (o := .frz od2 (.dK kvm)) eMv om mb
    have eMf := upd_same (H := HK) (a := Mv) (o := .frz od2 (.dK kvm))
    revert al eMf
    generalize upd HK Mv (.frz od2 (.dK kvm)) = Hf2
    intro al eMf
    refine ⟨_, rfl, Mv, od2, rfl, .inl ⟨_, eMf, for_it walk_keys (fun j σ Hy => ∃ (y8 : Option V), σ = [some (.ref a), some (.ref d), some (.str x), some (.ref ho), some (.int (1 + r)), some (.ref L), some (.ref B), some (.int (day + rd)), y8, some (.int (i : Int)), some (.str h), some (.int (20 + (i : Int))), some (.ref Mv), some (.ref D), y14, y15] ∧ Al2 Ms Xs d c ho L B [ha0, hb0, hc0] us' hp' kv' Hy (t2 + 1) ∧ Hy Mv = some (.frz od2 (.dK kvm))) ⟨_, rfl, al, eMf⟩ (fun j σ Hy _ hP => by obtain ⟨_, rfl, _, e⟩ := hP; exact e) (fun j v σ Hy Hy' hj hP hy => ?_) (fun σ Hy hP => ?_)⟩⟩
    · obtain ⟨y8, rfl, al, eMf⟩ := hP
      obtain ⟨rfl, k, v', ek, rfl⟩ := hy
      rw [hzk, List.getElem?_map] at ek
      obtain ⟨z, ez, e⟩ := Option.map_eq_some_iff.mp ek
      cases e
      have hMz : Mf z.1 = some z.2 := (hzm z.1 z.2).mp (List.mem_of_getElem? ez)
      refine ⟨_, rfl, _, rfl, _, rfl, _, rfl, L, us', day + rd, z.1, x, hp', E91, SPs [ha0, hb0, hc0], rfl, .inl al.el, al.hu.pages, al.tq, hLm, hGm, E91_len, by omega, hfit, by omega, fun lw vs out Hw nlw hO elw hvs nw tqw => ?_⟩
      obtain rfl := hio out hO
      have al := al.noTab nw tqw
      have eMf := nw.keep _ _ eMf (fun _ z => nomatch z)
      have hway : wayF (goF [] (ps ++ [(⟨day + rd, 20 + (i : Int), dd⟩ : Page)])).2 x z.1 = wayF ss x z.1 ++ [(20 + (i : Int), z.2, h)] := by
        rw [hgo']
        show wayF (ss ++ [stp]) x z.1 = _
        unfold wayF
        rw [List.flatMap_append, List.flatMap_cons, List.flatMap_nil, List.append_nil, if_pos hstp, hput z.1 z.2 hMz]
      rw [hway] at hvs
      have hcv := thgl_last hvs
      have hg := wdm.dget (H := Hw) (a := Mv) (.inr ⟨od2, eMf⟩) z.1
      rw [hMz] at hg
      refine ⟨1, rfl, -1, rfl, lw, vs, rfl, SqL.of elw, fun S nS => ?_⟩
      have sS := same_upd (o := .lst (cutV vs (some (-1)) none)) nS
      have hg2 : DGet (upd Hw S (.lst (cutV vs (some (-1)) none))) Mv (.int z.1) (some (.str z.2)) := by
        have := wdm.dget (H := upd Hw S (.lst (cutV vs (some (-1)) none))) (a := Mv) (.inr ⟨od2, sS _ _ eMf⟩) z.1
        rw [hMz] at this
        exact this
      refine ⟨_, rfl, _, rfl, _, rfl, Mv, _, rfl, hg2, _, rfl, by show 3 ≤ sizeLine; decide, fun T nT => ⟨by show 1 ≤ sizeLine; decide, fun l nl => ?_⟩⟩
      have sT := same_upd (o := .tup [V.int (20 + (i : Int)), .str z.2, .str h]) nT
      have sl := same_upd (o := .lst [V.ref T]) nl
      have hS : Thg [] _ (.ref S) (.list [trip3 (20 + (i : Int), z.2, h)]) := ((hcv.same sS).lst upd_same (fun z => nomatch z))
      have hS := (hS.same sT).same sl
      have hT2 : Thg [] _ (.ref T) (trip3 (20 + (i : Int), z.2, h)) := ThgL.tup (.cons (.int _) (.cons (.str _) (.one (.str _)))) (upd_same (H := upd Hw S (.lst (cutV vs (some (-1)) none))))
      have hl : Thg [] _ (.ref l) (.list [trip3 (20 + (i : Int), z.2, h)]) := (ThgL.one (hT2.same sl)).lst upd_same (fun z => nomatch z)
      have al := ((al.same sS).same sT).same sl
      have eMf := sl _ _ (sT _ _ (sS _ _ eMf))
      refine ⟨_, _, _, rfl, hS.datW, hl.datW, sm_trip1, nb_trip1, fun H8 s8 => ⟨_, rfl, iteF (A := True) ⟨_, rfl, al.same s8, s8 _ _ eMf⟩⟩⟩
    obtain ⟨y8, rfl, al, eMf⟩ := hP
    exact ⟨eMf, t2 + 1, us', hp', _, W', kv', day + rd, _, _, _, _, _, _, _, _, rfl, al.offF (o := .dK kvm) eMf om mb, bg', hperm', hkv', by omega, by omega, hpl', by omega⟩
end

/-! ### the end: what the top has left, the tables of code objects among it -/
/-- each def of the text has a code object with an empty table -/
def Tabs (q : Program) (mg : Str → Option Value) (h : Heap) : Prop := ∀ dr ∈ recsOf q, ∃ (f : Addr) (o : Obj) (fd : FuncData) (c P : Addr), mg dr.name = some (.ref f) ∧ h.get? f = some o ∧ o.data = .func fd ∧ fd.code = .ref c ∧ PySem.W.CodeHd h c P ∧ h.get? P = some (PySem.W.tabObj #[])
theorem tab_in {q : Program} {mg : Str → Option Value} {h : Heap} {K : PySem.W.Frag} {y : Str} {f c P : Addr} {oc e : Value} {od dd : Option Addr} {fd : FuncData} {osl sl : Array (Option Value)} {vs : Array Value} (TT : Tabs q mg h) (X : K.In h) (rec : ((recsOf q).any fun r => r.name == y) = true)
    (g : mg y = some (.ref f)) (lf : K.lookup f = some ⟨oc, od, .func fd, osl⟩) (hc : fd.code = .ref c) (lc : K.lookup c = some ⟨e, dd, .fields vs, sl⟩) (v : vs[11]? = some (.ref P)) : PySem.W.CodeHd h c P ∧ h.get? P = some (PySem.W.tabObj #[]) := by
  obtain ⟨dr, mem, nm⟩ := List.any_eq_true.mp rec
  obtain ⟨f', o', fd', c', P', t1, t2, t3, t4, t5, t6⟩ := TT dr mem
  have ef : f' = f := by
    rw [beq_iff_eq.mp nm, g] at t1
    exact (Value.ref.inj (Option.some.inj t1)).symm
  rw [ef, X _ _ lf] at t2
  rw [← Option.some.inj t2] at t3
  have efd : fd = fd' := Data.func.inj t3
  rw [← efd, hc] at t4
  have ec : c = c' := Value.ref.inj t4
  rw [← ec] at t5
  have t5' := t5
  obtain ⟨oc', us, _, _, _, _, _, _, _, u1, _, u3, u4, _⟩ := t5'
  rw [X _ _ lc] at u1
  rw [← Option.some.inj u1] at u3
  have eu : vs = us := Data.fields.inj u3
  rw [← eu, v] at u4
  have eP : P = P' := Value.ref.inj (Option.some.inj u4)
  rw [eP]
  exact ⟨t5, t6⟩
theorem law_end {l : PySem.W.OpenLaw} {k : Nat} {q : Program} {loose : List Str} {XP : (Str → Option Value) → Heap → Prop} {YP : World → Heap → Prop} {d : DefRec} {K : Params → PySem.W.Frag} (most : l.most = some 63) (plain : d.params.defaults = []) (room : Room k callerA)
    (part : ∀ w h, YP w h → (K w.params).In h) (made : ∀ (w : World) (mg : Str → Option Value) (f : Addr) (h : Heap), (K w.params).In h → h.Ns mainGlobals mg → mg d.name = some (.ref f) → Tabs q mg h → LamX.LawAtS l w (K w.params) CX0 k 63 "_law_script" mg f h) : PySem.W.WalkO q loose XP YP l.row.toRowW d [] (fun f vs => PySem.call f vs) := by
  refine Att.attach_callB most plain ?_
  intro w _ s₁ mg _ f _ _ _ _ a vs ns ground said _ _ _ name script nums len size still
  have X := part w _ said
  have tabs : Tabs q mg s₁.heap := fun dr mem => by
    obtain ⟨f', o', fd', c', P', t1, t2, t3, t4, t5, t6⟩ := ground.T.tab dr mem
    exact ⟨f', o', fd', c', P', t1, t2, t3, t4, PySem.W.CodeHd.of t5 t6, t6.2⟩
  obtain ⟨fd, cs, sp, e1, e2, e3, e4, e5, e6⟩ := made w mg f _ X ground.T.g name tabs
  exact LamX.law_callTs X ground.T.g ground.T.b ground.T.builtins ground.T.nolimit still e1 e2 e3 ground.T.bmain script nums (Nat.le_trans len (by decide)) room e6 e4 (fun H z1 z2 => e5 H a ns len size z1 z2) fun _ _ _ z => z

/-! ### the defs that DOING holds -/
def sdO (f1 f2 f3 f4 : Addr) : Addr → Option Sp := fun f => if f = f1 then some (spDo isPack) else if f = f2 then some (spDo isLade) else if f = f3 then some (spDo isEnd) else if f = f4 then some (spDo isTell) else none
theorem sd_held {P : Program} {w : World} {K : PySem.W.Frag} {mg : Str → Option Value} {base : Heap} {f1 f2 f3 f4 : Addr} (h1 : Held P w K mg base 6 f1 (spDo isPack)) (h2 : Held P w K mg base 6 f2 (spDo isLade)) (h3 : Held P w K mg base 6 f3 (spDo isEnd)) (h4 : Held P w K mg base 6 f4 (spDo isTell)) : ∀ f sp, sdO f1 f2 f3 f4 f = some sp → Held P w K mg base 6 f sp := by
  intro f sp h
  unfold sdO at h
  by_cases c1 : f = f1
  · rw [if_pos c1] at h; cases h; rw [c1]; exact h1
  rw [if_neg c1] at h
  by_cases c2 : f = f2
  · rw [if_pos c2] at h; cases h; rw [c2]; exact h2
  rw [if_neg c2] at h
  by_cases c3 : f = f3
  · rw [if_pos c3] at h; cases h; rw [c3]; exact h3
  rw [if_neg c3] at h
  by_cases c4 : f = f4
  · rw [if_pos c4] at h; cases h; rw [c4]; exact h4
  rw [if_neg c4] at h
  cases h
theorem sd_doing {K : PySem.W.Frag} {w : World} {dD f1 f2 f3 f4 : Addr} (n21 : f2 ≠ f1) (n31 : f3 ≠ f1) (n32 : f3 ≠ f2) (n41 : f4 ≠ f1) (n42 : f4 ≠ f2) (n43 : f4 ≠ f3) (a1 : KDct K w dD "pack" (.ref f1)) (a2 : KDct K w dD "lade" (.ref f2)) (a3 : KDct K w dD "sell" (.ref f3)) (a4 : KDct K w dD "back" (.ref f3)) (a5 : KDct K w dD "tell" (.ref f4)) : ∀ d : Deed, ∃ f c, KDct K w dD d.kind (.ref f) ∧ sdO f1 f2 f3 f4 f = some (spDo c) ∧ c d = true := by
  intro d
  cases d with
  | pack => exact ⟨f1, isPack, a1, by unfold sdO; rw [if_pos rfl], rfl⟩
  | lade => exact ⟨f2, isLade, a2, by unfold sdO; rw [if_neg n21, if_pos rfl], rfl⟩
  | sell => exact ⟨f3, isEnd, a3, by unfold sdO; rw [if_neg n31, if_neg n32, if_pos rfl], rfl⟩
  | back => exact ⟨f3, isEnd, a4, by unfold sdO; rw [if_neg n31, if_neg n32, if_pos rfl], rfl⟩
  | tell => exact ⟨f4, isTell, a5, by unfold sdO; rw [if_neg n41, if_neg n42, if_neg n43, if_pos rfl], rfl⟩
theorem fn_ne {K : PySem.W.Frag} {f g : Addr} {o1 o2 : Value} {d1 d2 : Option Addr} {fd1 fd2 : FuncData} {s1 s2 : Array (Option Value)} (l1 : K.lookup f = some ⟨o1, d1, .func fd1, s1⟩) (l2 : K.lookup g = some ⟨o2, d2, .func fd2, s2⟩) (h : fd1.name ≠ fd2.name) : f ≠ g := by
  intro e
  subst e
  rw [l1] at l2
  cases l2
  exact h rfl

theorem all_mk {l : PySem.W.OpenLaw} {q : Program} {w : World} {K : PySem.W.Frag} {h : Heap} {mg : Str → Option Value} {fa f0 f1 f2 f3 f4 f5 f6 f7 f8 f9 f10 f11 f12 f13 f14 f15 f16 f17 f18 f19 f20 f21 f22 f23 f24 f25 f26 f27 f28 f29 f30 : Addr} {c5 P5 c6 P6 : Addr} (X : K.In h) (G : h.Ns mainGlobals mg) (hfa : mg "law" = some (.ref fa)) (TT : Tabs q mg h)
    {od0 an0 od1 an1 od2 an2 od3 an3 od4 an4 od5 an5 od6 an6 od7 an7 od8 an8 od9 an9 od10 an10 od11 an11 od12 an12 od13 an13 od14 an14 od15 an15 od16 an16 od17 an17 od18 an18 od19 an19 od20 an20 od21 an21 od22 an22 od23 an23 od24 an24 od25 an25 od26 an26 od27 an27 od28 an28 od29 an29 od30 an30 : Option Addr} {sl0 sl1 sl2 sl3 sl4 sl5 sl6 sl7 sl8 sl9 sl10 sl11 sl12 sl13 sl14 sl15 sl16 sl17 sl18 sl19 sl20 sl21 sl22 sl23 sl24 sl25 sl26 sl27 sl28 sl29 sl30 : Array (Option Value)} {oc0 kV0 dc0 pm0 ct0 cd0 oc1 kV1 dc1 pm1 ct1 cd1 oc2 kV2 dc2 pm2 ct2 cd2 oc3 kV3 dc3 pm3 ct3 cd3 oc4 kV4 dc4 pm4 ct4 cd4 oc5 kV5 dc5 pm5 ct5 oc6 kV6 dc6 pm6 ct6 oc7 kV7 dc7 pm7 ct7 cd7 oc8 kV8 dc8 pm8 ct8 cd8 oc9 kV9 dc9 pm9 ct9 cd9 oc10 kV10 dc10 pm10 ct10 cd10 oc11 kV11 dc11 pm11 ct11 cd11 oc12 kV12 dc12 pm12 ct12 cd12 oc13 kV13 dc13 pm13 ct13 cd13 oc14 kV14 dc14 pm14 ct14 cd14 oc15 kV15 dc15 pm15 ct15 cd15 oc16 kV16 dc16 pm16 ct16 cd16 oc17 kV17 dc17 pm17 ct17 cd17 oc18 kV18 dc18 pm18 ct18 cd18 oc19 kV19 dc19 pm19 ct19 cd19 oc20 kV20 dc20 pm20 ct20 cd20 oc21 kV21 dc21 pm21 ct21 cd21 oc22 kV22 dc22 pm22 ct22 cd22 oc23 kV23 dc23 pm23 ct23 cd23 oc24 kV24 dc24 pm24 ct24 cd24 oc25 kV25 dc25 pm25 ct25 cd25 oc26 kV26 dc26 pm26 ct26 cd26 oc27 kV27 dc27 pm27 ct27 cd27 oc28 kV28 dc28 pm28 ct28 cd28 oc29 kV29 dc29 pm29 ct29 cd29 oc30 kV30 dc30 pm30 ct30 cd30 : Value}
    {e5 : Value} {dd5 : Option Addr} {vs5 : Array Value} {sc5 : Array (Option Value)} {e6 : Value} {dd6 : Option Addr} {vs6 : Array Value} {sc6 : Array (Option Value)}
    (a0 : PySem.W.nsIn K mainGlobals "set_of" = some (some (.ref f0))) (l0 : K.lookup f0 = some ⟨oc0, od0, .func (PySem.W.fnOf "set_of" "set_of" (defArgs sSetOf) (defBody sSetOf) (defScope sSetOf) .none kV0 dc0 pm0 an0 cd0 ct0), sl0⟩) (c0' : PySem.W.codeIn K cd0 "set_of" = true) (k0 : PySem.W.keepIn K (.ref f0) = true)
    (a1 : PySem.W.nsIn K mainGlobals "either" = some (some (.ref f1))) (l1 : K.lookup f1 = some ⟨oc1, od1, .func (PySem.W.fnOf "either" "either" (defArgs sEither) (defBody sEither) (defScope sEither) .none kV1 dc1 pm1 an1 cd1 ct1), sl1⟩) (c1' : PySem.W.codeIn K cd1 "either" = true) (k1 : PySem.W.keepIn K (.ref f1) = true)
    (a2 : PySem.W.nsIn K mainGlobals "both_of" = some (some (.ref f2))) (l2 : K.lookup f2 = some ⟨oc2, od2, .func (PySem.W.fnOf "both_of" "both_of" (defArgs sBoth) (defBody sBoth) (defScope sBoth) .none kV2 dc2 pm2 an2 cd2 ct2), sl2⟩) (c2' : PySem.W.codeIn K cd2 "both_of" = true) (k2 : PySem.W.keepIn K (.ref f2) = true)
    (a3 : PySem.W.nsIn K mainGlobals "gaps_of" = some (some (.ref f3))) (l3 : K.lookup f3 = some ⟨oc3, od3, .func (PySem.W.fnOf "gaps_of" "gaps_of" (defArgs sGaps) (defBody sGaps) (defScope sGaps) .none kV3 dc3 pm3 an3 cd3 ct3), sl3⟩) (c3' : PySem.W.codeIn K cd3 "gaps_of" = true) (k3 : PySem.W.keepIn K (.ref f3) = true)
    (a4 : PySem.W.nsIn K mainGlobals "without" = some (some (.ref f4))) (l4 : K.lookup f4 = some ⟨oc4, od4, .func (PySem.W.fnOf "without" "without" (defArgs sWithout) (defBody sWithout) (defScope sWithout) .none kV4 dc4 pm4 an4 cd4 ct4), sl4⟩) (c4' : PySem.W.codeIn K cd4 "without" = true) (k4 : PySem.W.keepIn K (.ref f4) = true)
    (a5 : PySem.W.nsIn K mainGlobals "is_in" = some (some (.ref f5))) (l5 : K.lookup f5 = some ⟨oc5, od5, .func (PySem.W.fnOf "is_in" "is_in" (defArgs sIsIn) (defBody sIsIn) (defScope sIsIn) .none kV5 dc5 pm5 an5 (.ref c5) ct5), sl5⟩) (c5' : PySem.W.codeIn K (.ref c5) "is_in" = true) (k5 : PySem.W.keepIn K (.ref f5) = true)
    (a6 : PySem.W.nsIn K mainGlobals "in_order" = some (some (.ref f6))) (l6 : K.lookup f6 = some ⟨oc6, od6, .func (PySem.W.fnOf "in_order" "in_order" (defArgs sInOrder) (defBody sInOrder) (defScope sInOrder) .none kV6 dc6 pm6 an6 (.ref c6) ct6), sl6⟩) (c6' : PySem.W.codeIn K (.ref c6) "in_order" = true) (k6 : PySem.W.keepIn K (.ref f6) = true)
    (a7 : PySem.W.nsIn K mainGlobals "cases_at" = some (some (.ref f7))) (l7 : K.lookup f7 = some ⟨oc7, od7, .func (PySem.W.fnOf "cases_at" "cases_at" (defArgs sCasesAt) (defBody sCasesAt) (defScope sCasesAt) .none kV7 dc7 pm7 an7 cd7 ct7), sl7⟩) (c7' : PySem.W.codeIn K cd7 "cases_at" = true) (k7 : PySem.W.keepIn K (.ref f7) = true)
    (a8 : PySem.W.nsIn K mainGlobals "lay" = some (some (.ref f8))) (l8 : K.lookup f8 = some ⟨oc8, od8, .func (PySem.W.fnOf "lay" "lay" (defArgs sLay) (defBody sLay) (defScope sLay) .none kV8 dc8 pm8 an8 cd8 ct8), sl8⟩) (c8' : PySem.W.codeIn K cd8 "lay" = true) (k8 : PySem.W.keepIn K (.ref f8) = true)
    (a9 : PySem.W.nsIn K mainGlobals "take" = some (some (.ref f9))) (l9 : K.lookup f9 = some ⟨oc9, od9, .func (PySem.W.fnOf "take" "take" (defArgs sTakeS) (defBody sTakeS) (defScope sTakeS) .none kV9 dc9 pm9 an9 cd9 ct9), sl9⟩) (c9' : PySem.W.codeIn K cd9 "take" = true) (k9 : PySem.W.keepIn K (.ref f9) = true)
    (a10 : PySem.W.nsIn K mainGlobals "carry" = some (some (.ref f10))) (l10 : K.lookup f10 = some ⟨oc10, od10, .func (PySem.W.fnOf "carry" "carry" (defArgs sCarry) (defBody sCarry) (defScope sCarry) .none kV10 dc10 pm10 an10 cd10 ct10), sl10⟩) (c10' : PySem.W.codeIn K cd10 "carry" = true) (k10 : PySem.W.keepIn K (.ref f10) = true)
    (a11 : PySem.W.nsIn K mainGlobals "do_pack" = some (some (.ref f11))) (l11 : K.lookup f11 = some ⟨oc11, od11, .func (PySem.W.fnOf "do_pack" "do_pack" (defArgs sDoPack) (defBody sDoPack) (defScope sDoPack) .none kV11 dc11 pm11 an11 cd11 ct11), sl11⟩) (c11' : PySem.W.codeIn K cd11 "do_pack" = true) (k11 : PySem.W.keepIn K (.ref f11) = true)
    (a12 : PySem.W.nsIn K mainGlobals "do_lade" = some (some (.ref f12))) (l12 : K.lookup f12 = some ⟨oc12, od12, .func (PySem.W.fnOf "do_lade" "do_lade" (defArgs sDoLade) (defBody sDoLade) (defScope sDoLade) .none kV12 dc12 pm12 an12 cd12 ct12), sl12⟩) (c12' : PySem.W.codeIn K cd12 "do_lade" = true) (k12 : PySem.W.keepIn K (.ref f12) = true)
    (a13 : PySem.W.nsIn K mainGlobals "do_end" = some (some (.ref f13))) (l13 : K.lookup f13 = some ⟨oc13, od13, .func (PySem.W.fnOf "do_end" "do_end" (defArgs sDoEnd) (defBody sDoEnd) (defScope sDoEnd) .none kV13 dc13 pm13 an13 cd13 ct13), sl13⟩) (c13' : PySem.W.codeIn K cd13 "do_end" = true) (k13 : PySem.W.keepIn K (.ref f13) = true)
    (a14 : PySem.W.nsIn K mainGlobals "do_tell" = some (some (.ref f14))) (l14 : K.lookup f14 = some ⟨oc14, od14, .func (PySem.W.fnOf "do_tell" "do_tell" (defArgs sDoTell) (defBody sDoTell) (defScope sDoTell) .none kV14 dc14 pm14 an14 cd14 ct14), sl14⟩) (c14' : PySem.W.codeIn K cd14 "do_tell" = true) (k14 : PySem.W.keepIn K (.ref f14) = true)
    (a15 : PySem.W.nsIn K mainGlobals "word_of" = some (some (.ref f15))) (l15 : K.lookup f15 = some ⟨oc15, od15, .func (PySem.W.fnOf "word_of" "word_of" (defArgs sWordOf) (defBody sWordOf) (defScope sWordOf) .none kV15 dc15 pm15 an15 cd15 ct15), sl15⟩) (c15' : PySem.W.codeIn K cd15 "word_of" = true) (k15 : PySem.W.keepIn K (.ref f15) = true)
    (a16 : PySem.W.nsIn K mainGlobals "gone_through" = some (some (.ref f16))) (l16 : K.lookup f16 = some ⟨oc16, od16, .func (PySem.W.fnOf "gone_through" "gone_through" (defArgs sGone) (defBody sGone) (defScope sGone) .none kV16 dc16 pm16 an16 cd16 ct16), sl16⟩) (c16' : PySem.W.codeIn K cd16 "gone_through" = true) (k16 : PySem.W.keepIn K (.ref f16) = true)
    (a17 : PySem.W.nsIn K mainGlobals "lying_in" = some (some (.ref f17))) (l17 : K.lookup f17 = some ⟨oc17, od17, .func (PySem.W.fnOf "lying_in" "lying_in" (defArgs sLying) (defBody sLying) (defScope sLying) .none kV17 dc17 pm17 an17 cd17 ct17), sl17⟩) (c17' : PySem.W.codeIn K cd17 "lying_in" = true) (k17 : PySem.W.keepIn K (.ref f17) = true)
    (a18 : PySem.W.nsIn K mainGlobals "ends_in" = some (some (.ref f18))) (l18 : K.lookup f18 = some ⟨oc18, od18, .func (PySem.W.fnOf "ends_in" "ends_in" (defArgs sEnds) (defBody sEnds) (defScope sEnds) .none kV18 dc18 pm18 an18 cd18 ct18), sl18⟩) (c18' : PySem.W.codeIn K cd18 "ends_in" = true) (k18 : PySem.W.keepIn K (.ref f18) = true)
    (a19 : PySem.W.nsIn K mainGlobals "standing" = some (some (.ref f19))) (l19 : K.lookup f19 = some ⟨oc19, od19, .func (PySem.W.fnOf "standing" "standing" (defArgs sStanding) (defBody sStanding) (defScope sStanding) .none kV19 dc19 pm19 an19 cd19 ct19), sl19⟩) (c19' : PySem.W.codeIn K cd19 "standing" = true) (k19 : PySem.W.keepIn K (.ref f19) = true)
    (a20 : PySem.W.nsIn K mainGlobals "way_of" = some (some (.ref f20))) (l20 : K.lookup f20 = some ⟨oc20, od20, .func (PySem.W.fnOf "way_of" "way_of" (defArgs sWay) (defBody sWay) (defScope sWay) .none kV20 dc20 pm20 an20 cd20 ct20), sl20⟩) (c20' : PySem.W.codeIn K cd20 "way_of" = true) (k20 : PySem.W.keepIn K (.ref f20) = true)
    (a21 : PySem.W.nsIn K mainGlobals "_law_begin" = some (some (.ref f21))) (l21 : K.lookup f21 = some ⟨oc21, od21, .func (PySem.W.fnOf "_law_begin" "_law_begin" (defArgs sBegin) (defBody sBegin) (defScope sBegin) .none kV21 dc21 pm21 an21 cd21 ct21), sl21⟩) (c21' : PySem.W.codeIn K cd21 "_law_begin" = true) (k21 : PySem.W.keepIn K (.ref f21) = true)
    (a22 : PySem.W.nsIn K mainGlobals "_law_take" = some (some (.ref f22))) (l22 : K.lookup f22 = some ⟨oc22, od22, .func (PySem.W.fnOf "_law_take" "_law_take" (defArgs sTake) (defBody sTake) (defScope sTake) .none kV22 dc22 pm22 an22 cd22 ct22), sl22⟩) (c22' : PySem.W.codeIn K cd22 "_law_take" = true) (k22 : PySem.W.keepIn K (.ref f22) = true)
    (a23 : PySem.W.nsIn K mainGlobals "_law_same" = some (some (.ref f23))) (l23 : K.lookup f23 = some ⟨oc23, od23, .func (PySem.W.fnOf "_law_same" "_law_same" (defArgs sSame) (defBody sSame) (defScope sSame) .none kV23 dc23 pm23 an23 cd23 ct23), sl23⟩) (c23' : PySem.W.codeIn K cd23 "_law_same" = true) (k23 : PySem.W.keepIn K (.ref f23) = true)
    (a24 : PySem.W.nsIn K mainGlobals "_law_names" = some (some (.ref f24))) (l24 : K.lookup f24 = some ⟨oc24, od24, .func (PySem.W.fnOf "_law_names" "_law_names" (defArgs sNames) (defBody sNames) (defScope sNames) .none kV24 dc24 pm24 an24 cd24 ct24), sl24⟩) (c24' : PySem.W.codeIn K cd24 "_law_names" = true) (k24 : PySem.W.keepIn K (.ref f24) = true)
    (a25 : PySem.W.nsIn K mainGlobals "_law_set" = some (some (.ref f25))) (l25 : K.lookup f25 = some ⟨oc25, od25, .func (PySem.W.fnOf "_law_set" "_law_set" (defArgs sLSet) (defBody sLSet) (defScope sLSet) .none kV25 dc25 pm25 an25 cd25 ct25), sl25⟩) (c25' : PySem.W.codeIn K cd25 "_law_set" = true) (k25 : PySem.W.keepIn K (.ref f25) = true)
    (a26 : PySem.W.nsIn K mainGlobals "_law_numbers" = some (some (.ref f26))) (l26 : K.lookup f26 = some ⟨oc26, od26, .func (PySem.W.fnOf "_law_numbers" "_law_numbers" (defArgs sLNum) (defBody sLNum) (defScope sLNum) .none kV26 dc26 pm26 an26 cd26 ct26), sl26⟩) (c26' : PySem.W.codeIn K cd26 "_law_numbers" = true) (k26 : PySem.W.keepIn K (.ref f26) = true)
    (a27 : PySem.W.nsIn K mainGlobals "_law_of" = some (some (.ref f27))) (l27 : K.lookup f27 = some ⟨oc27, od27, .func (PySem.W.fnOf "_law_of" "_law_of" (defArgs sLOf) (defBody sLOf) (defScope sLOf) .none kV27 dc27 pm27 an27 cd27 ct27), sl27⟩) (c27' : PySem.W.codeIn K cd27 "_law_of" = true) (k27 : PySem.W.keepIn K (.ref f27) = true)
    (a28 : PySem.W.nsIn K mainGlobals "_law_stands" = some (some (.ref f28))) (l28 : K.lookup f28 = some ⟨oc28, od28, .func (PySem.W.fnOf "_law_stands" "_law_stands" (defArgs sLStands) (defBody sLStands) (defScope sLStands) .none kV28 dc28 pm28 an28 cd28 ct28), sl28⟩) (c28' : PySem.W.codeIn K cd28 "_law_stands" = true) (k28 : PySem.W.keepIn K (.ref f28) = true)
    (a29 : PySem.W.nsIn K mainGlobals "_law_told" = some (some (.ref f29))) (l29 : K.lookup f29 = some ⟨oc29, od29, .func (PySem.W.fnOf "_law_told" "_law_told" (defArgs sLTold) (defBody sLTold) (defScope sLTold) .none kV29 dc29 pm29 an29 cd29 ct29), sl29⟩) (c29' : PySem.W.codeIn K cd29 "_law_told" = true) (k29 : PySem.W.keepIn K (.ref f29) = true)
    (a30 : PySem.W.nsIn K mainGlobals "law" = some (some (.ref f30))) (l30 : K.lookup f30 = some ⟨oc30, od30, .func (PySem.W.fnOf "law" "law" (defArgs sLaw) (defBody sLaw) (defScope sLaw) .none kV30 dc30 pm30 an30 cd30 ct30), sl30⟩) (c30' : PySem.W.codeIn K cd30 "law" = true) (k30 : PySem.W.keepIn K (.ref f30) = true)
    (lc5 : K.lookup c5 = some ⟨e5, dd5, .fields vs5, sc5⟩) (v5 : vs5[11]? = some (.ref P5)) (nP5 : K.lookup P5 = none) (r5 : ((recsOf q).any fun e => e.name == ("is_in" : Str)) = true)
    (lc6 : K.lookup c6 = some ⟨e6, dd6, .fields vs6, sc6⟩) (v6 : vs6[11]? = some (.ref P6)) (nP6 : K.lookup P6 = none) (r6 : ((recsOf q).any fun e => e.name == ("in_order" : Str)) = true)
    {tk_LYING : Tok} (zc_LYING : PySem.W.nsIn K mainGlobals "LYING" = some (some (.str "lying" tk_LYING))) {tk_SOLD : Tok} (zc_SOLD : PySem.W.nsIn K mainGlobals "SOLD" = some (some (.str "sold" tk_SOLD))) {tk_BACK : Tok} (zc_BACK : PySem.W.nsIn K mainGlobals "BACK" = some (some (.str "back" tk_BACK))) {tk_LACKING : Tok} (zc_LACKING : PySem.W.nsIn K mainGlobals "LACKING" = some (some (.str "lacking" tk_LACKING))) {tk_DONE : Tok} (zc_DONE : PySem.W.nsIn K mainGlobals "DONE" = some (some (.str "done" tk_DONE)))
    {dN dE : Addr} {esN esE esD : Array DictEntry} {nN nE nD : Nat} {tN0 tN1 tN2 tN3 tN4 tE0 tE1 : Tok} {dD : Addr}
    (x_PP : P6 ∉ [P5])
    (zN : PySem.W.nsIn K mainGlobals "NAME_AT" = some (some (.ref dN)))
    (ldN : K.lookup dN = some ⟨.type "dict", none, .dict esN nN, #[]⟩)
    (kkN : PySem.W.KeysLit w.params esN.toList)
    (xN0 : PySem.W.nsIn K dN "pack" = some (some (.int 1 tN0)))
    (xN1 : PySem.W.nsIn K dN "lade" = some (some (.int 3 tN1)))
    (xN2 : PySem.W.nsIn K dN "sell" = some (some (.int 2 tN2)))
    (xN3 : PySem.W.nsIn K dN "back" = some (some (.int 2 tN3)))
    (xN4 : PySem.W.nsIn K dN "tell" = some (some (.int 2 tN4)))
    (zE : PySem.W.nsIn K mainGlobals "ENDS" = some (some (.ref dE)))
    (ldE : K.lookup dE = some ⟨.type "dict", none, .dict esE nE, #[]⟩)
    (kkE : PySem.W.KeysLit w.params esE.toList)
    (xE0 : PySem.W.nsIn K dE "sell" = some (some (.str "sold" tE0)))
    (xE1 : PySem.W.nsIn K dE "back" = some (some (.str "back" tE1)))
    (zD : PySem.W.nsIn K mainGlobals "DOING" = some (some (.ref dD)))
    (ldD : K.lookup dD = some ⟨.type "dict", none, .dict esD nD, #[]⟩)
    (kkD : PySem.W.KeysLit w.params esD.toList)
    (xD0 : PySem.W.nsIn K dD "pack" = some (some (.ref f11)))
    (xD1 : PySem.W.nsIn K dD "lade" = some (some (.ref f12)))
    (xD2 : PySem.W.nsIn K dD "sell" = some (some (.ref f13)))
    (xD3 : PySem.W.nsIn K dD "back" = some (some (.ref f13)))
    (xD4 : PySem.W.nsIn K dD "tell" = some (some (.ref f14)))
    (z_all : PySem.W.nsIn K mainGlobals "all" = some none) (z_any : PySem.W.nsIn K mainGlobals "any" = some none) (z_bool : PySem.W.nsIn K mainGlobals "bool" = some none) (z_dict : PySem.W.nsIn K mainGlobals "dict" = some none) (z_divmod : PySem.W.nsIn K mainGlobals "divmod" = some none) (z_int : PySem.W.nsIn K mainGlobals "int" = some none) (z_isinstance : PySem.W.nsIn K mainGlobals "isinstance" = some none) (z_len : PySem.W.nsIn K mainGlobals "len" = some none) (z_list : PySem.W.nsIn K mainGlobals "list" = some none) (z_max : PySem.W.nsIn K mainGlobals "max" = some none) (z_min : PySem.W.nsIn K mainGlobals "min" = some none) (z_range : PySem.W.nsIn K mainGlobals "range" = some none) (z_set : PySem.W.nsIn K mainGlobals "set" = some none) (z_sorted : PySem.W.nsIn K mainGlobals "sorted" = some none) (z_str : PySem.W.nsIn K mainGlobals "str" = some none) (z_tuple : PySem.W.nsIn K mainGlobals "tuple" = some none) (z_zip : PySem.W.nsIn K mainGlobals "zip" = some none) :
    LamX.LawAtS l w K CX0 9 63 "_law_script" mg fa h := by
  cases hfa.symm.trans (PySem.W.mg_of X G a30)
  have F0 := fun_mk (st := sSetOf) l0 c0' k0
  have b0 := F0.binds (ps := ["pairs"]) fun _ _ _ _ _ _ us hl => match us, hl with | [_], _ => rfl
  have F1 := fun_mk (st := sEither) l1 c1' k1
  have b1 := F1.binds (ps := ["one", "other"]) fun _ _ _ _ _ _ us hl => match us, hl with | [_, _], _ => rfl
  have F2 := fun_mk (st := sBoth) l2 c2' k2
  have b2 := F2.binds (ps := ["one", "other"]) fun _ _ _ _ _ _ us hl => match us, hl with | [_, _], _ => rfl
  have F3 := fun_mk (st := sGaps) l3 c3' k3
  have b3 := F3.binds (ps := ["some", "begin", "end"]) fun _ _ _ _ _ _ us hl => match us, hl with | [_, _, _], _ => rfl
  have F4 := fun_mk (st := sWithout) l4 c4' k4
  have b4 := F4.binds (ps := ["one", "other"]) fun _ _ _ _ _ _ us hl => match us, hl with | [_, _], _ => rfl
  have F5 := fun_mk (st := sIsIn) l5 c5' k5
  have b5 := F5.binds (ps := ["some", "number"]) fun _ _ _ _ _ _ us hl => match us, hl with | [_, _], _ => rfl
  have F6 := fun_mk (st := sInOrder) l6 c6' k6
  have b6 := F6.binds (ps := ["pages"]) fun _ _ _ _ _ _ us hl => match us, hl with | [_], _ => rfl
  have F7 := fun_mk (st := sCasesAt) l7 c7' k7
  have b7 := F7.binds (ps := ["store", "word"]) fun _ _ _ _ _ _ us hl => match us, hl with | [_, _], _ => rfl
  have F8 := fun_mk (st := sLay) l8 c8' k8
  have b8 := F8.binds (ps := ["store", "spot", "cases"]) fun _ _ _ _ _ _ us hl => match us, hl with | [_, _, _], _ => rfl
  have F9 := fun_mk (st := sTakeS) l9 c9' k9
  have b9 := F9.binds (ps := ["store", "spot", "asked"]) fun _ _ _ _ _ _ us hl => match us, hl with | [_, _, _], _ => rfl
  have F10 := fun_mk (st := sCarry) l10 c10' k10
  have b10 := F10.binds (ps := ["store", "holder", "goal", "asked"]) fun _ _ _ _ _ _ us hl => match us, hl with | [_, _, _, _], _ => rfl
  have F11 := fun_mk (st := sDoPack) l11 c11' k11
  have b11 := F11.binds (ps := ["store", "number", "deed"]) fun _ _ _ _ _ _ us hl => match us, hl with | [_, _, _], _ => rfl
  have F12 := fun_mk (st := sDoLade) l12 c12' k12
  have b12 := F12.binds (ps := ["store", "number", "deed"]) fun _ _ _ _ _ _ us hl => match us, hl with | [_, _, _], _ => rfl
  have F13 := fun_mk (st := sDoEnd) l13 c13' k13
  have b13 := F13.binds (ps := ["store", "number", "deed"]) fun _ _ _ _ _ _ us hl => match us, hl with | [_, _, _], _ => rfl
  have F14 := fun_mk (st := sDoTell) l14 c14' k14
  have b14 := F14.binds (ps := ["store", "number", "deed"]) fun _ _ _ _ _ _ us hl => match us, hl with | [_, _, _], _ => rfl
  have F15 := fun_mk (st := sWordOf) l15 c15' k15
  have b15 := F15.binds (ps := ["deed", "packed"]) fun _ _ _ _ _ _ us hl => match us, hl with | [_, _], _ => rfl
  have F16 := fun_mk (st := sGone) l16 c16' k16
  have b16 := F16.binds (ps := ["heap", "day"]) fun _ _ _ _ _ _ us hl => match us, hl with | [_, _], _ => rfl
  have F17 := fun_mk (st := sLying) l17 c17' k17
  have b17 := F17.binds (ps := ["stores"]) fun _ _ _ _ _ _ us hl => match us, hl with | [_], _ => rfl
  have F18 := fun_mk (st := sEnds) l18 c18' k18
  have b18 := F18.binds (ps := ["stores"]) fun _ _ _ _ _ _ us hl => match us, hl with | [_], _ => rfl
  have F19 := fun_mk (st := sStanding) l19 c19' k19
  have b19 := F19.binds (ps := ["heap", "day"]) fun _ _ _ _ _ _ us hl => match us, hl with | [_, _], _ => rfl
  have F20 := fun_mk (st := sWay) l20 c20' k20
  have b20 := F20.binds (ps := ["heap", "day", "name", "case"]) fun _ _ _ _ _ _ us hl => match us, hl with | [_, _, _, _], _ => rfl
  have F21 := fun_mk (st := sBegin) l21 c21' k21
  have b21 := F21.binds (ps := ["_law_script"]) fun _ _ _ _ _ _ us hl => match us, hl with | [_], _ => rfl
  have F22 := fun_mk (st := sTake) l22 c22' k22
  have b22 := F22.binds (ps := ["_law_state", "_law_many"]) fun _ _ _ _ _ _ us hl => match us, hl with | [_, _], _ => rfl
  have F23 := fun_mk (st := sSame) l23 c23' k23
  have b23 := F23.binds (ps := ["_law_found", "_law_due"]) fun _ _ _ _ _ _ us hl => match us, hl with | [_, _], _ => rfl
  have F24 := fun_mk (st := sNames) l24 c24' k24
  have b24 := F24.binds (ps := ["_law_state", "_law_many"]) fun _ _ _ _ _ _ us hl => match us, hl with | [_, _], _ => rfl
  have F25 := fun_mk (st := sLSet) l25 c25' k25
  have b25 := F25.binds (ps := ["_law_numbers_here"]) fun _ _ _ _ _ _ us hl => match us, hl with | [_], _ => rfl
  have F26 := fun_mk (st := sLNum) l26 c26' k26
  have b26 := F26.binds (ps := ["_law_some"]) fun _ _ _ _ _ _ us hl => match us, hl with | [_], _ => rfl
  have F27 := fun_mk (st := sLOf) l27 c27' k27
  have b27 := F27.binds (ps := ["_law_where", "_law_word"]) fun _ _ _ _ _ _ us hl => match us, hl with | [_, _], _ => rfl
  have F28 := fun_mk (st := sLStands) l28 c28' k28
  have b28 := F28.binds (ps := ["_law_found", "_law_where", "_law_name", "_law_holders"]) fun _ _ _ _ _ _ us hl => match us, hl with | [_, _, _, _], _ => rfl
  have F29 := fun_mk (st := sLTold) l29 c29' k29
  have b29 := F29.binds (ps := ["_law_state", "_law_where", "_law_holder", "_law_many"]) fun _ _ _ _ _ _ us hl => match us, hl with | [_, _, _, _], _ => rfl
  have F30 := fun_mk (st := sLaw) l30 c30' k30
  have m_LYING : ∃ u, mg "LYING" = some u ∧ RelV (.str "lying") u := ⟨_, PySem.W.mg_of X G zc_LYING, ⟨_, rfl⟩⟩
  have m_SOLD : ∃ u, mg "SOLD" = some u ∧ RelV (.str "sold") u := ⟨_, PySem.W.mg_of X G zc_SOLD, ⟨_, rfl⟩⟩
  have m_BACK : ∃ u, mg "BACK" = some u ∧ RelV (.str "back") u := ⟨_, PySem.W.mg_of X G zc_BACK, ⟨_, rfl⟩⟩
  have m_LACKING : ∃ u, mg "LACKING" = some u ∧ RelV (.str "lacking") u := ⟨_, PySem.W.mg_of X G zc_LACKING, ⟨_, rfl⟩⟩
  have m_DONE : ∃ u, mg "DONE" = some u ∧ RelV (.str "done") u := ⟨_, PySem.W.mg_of X G zc_DONE, ⟨_, rfl⟩⟩
  have m_all := PySem.W.mg_none_of X G z_all
  have m_any := PySem.W.mg_none_of X G z_any
  have m_bool := PySem.W.mg_none_of X G z_bool
  have m_dict := PySem.W.mg_none_of X G z_dict
  have m_divmod := PySem.W.mg_none_of X G z_divmod
  have m_int := PySem.W.mg_none_of X G z_int
  have m_isinstance := PySem.W.mg_none_of X G z_isinstance
  have m_len := PySem.W.mg_none_of X G z_len
  have m_list := PySem.W.mg_none_of X G z_list
  have m_max := PySem.W.mg_none_of X G z_max
  have m_min := PySem.W.mg_none_of X G z_min
  have m_range := PySem.W.mg_none_of X G z_range
  have m_set := PySem.W.mg_none_of X G z_set
  have m_sorted := PySem.W.mg_none_of X G z_sorted
  have m_str := PySem.W.mg_none_of X G z_str
  have m_tuple := PySem.W.mg_none_of X G z_tuple
  have m_zip := PySem.W.mg_none_of X G z_zip
  have tb5 := tab_in TT X r5 (PySem.W.mg_of X G a5) l5 rfl lc5 v5
  have tb6 := tab_in TT X r6 (PySem.W.mg_of X G a6) l6 rfl lc6 v6
  refine ⟨PySem.W.fnOf "law" "law" (defArgs sLaw) (defBody sLaw) (defScope sLaw) .none kV30 dc30 pm30 an30 cd30 ct30, [(c5, P5), (c6, P6)], spLaw K ⟨[P5], [(P6, qO)]⟩ [P6, P5] P6 P5, List.forall_mem_cons.mpr ⟨tb5.2, List.forall_mem_cons.mpr ⟨tb6.2, fun _ z => nomatch z⟩⟩, List.forall_mem_cons.mpr ⟨nP5, List.forall_mem_cons.mpr ⟨nP6, fun _ z => nomatch z⟩⟩, List.forall_mem_cons.mpr ⟨tb5.1, List.forall_mem_cons.mpr ⟨tb6.1, fun _ z => nomatch z⟩⟩, fun s v => .of_eq rfl, fun H a ns hl _ hH hS => ?_, fun base _ _ TB => ?_⟩
  · have hT5 : GxR.TabG H P5 := ⟨#[], hH (c5, P5) (List.mem_cons_self ..), trivial⟩; have hT6 : GxR.TabG H P6 := ⟨#[], hH (c6, P6) (List.mem_cons_of_mem _ (List.mem_cons_self ..)), trivial⟩; exact ⟨a, ns, rfl, hS, hl, ⟨List.forall_mem_cons.mpr ⟨⟨_, hH (c6, P6) (by simp)⟩, List.forall_mem_cons.mpr ⟨⟨_, hH (c5, P5) (by simp)⟩, (fun _ z => nomatch z)⟩⟩, List.forall_mem_cons.mpr ⟨⟨GX.TabQ.nil (hH (c5, P5) (by simp)), by simp⟩, (fun _ z => nomatch z)⟩, List.forall_mem_cons.mpr ⟨⟨by simp, x_PP, LamX.TabS.nil (hH (c6, P6) (by simp))⟩, (fun _ z => nomatch z)⟩⟩, ⟨by simp, fun l hl e => by rw [List.mem_singleton.mp hl]⟩, GX.Mq.mem.mpr (by simp), fun _ => rfl⟩
  · have g := fun {x : Str} {f : Addr} (a : PySem.W.nsIn K mainGlobals x = some (some (.ref f))) => PySem.W.mg_of X G a
    have T5 : GxR.TabB base mg c5 P5 := let t := TB (c5, P5) (List.mem_cons_self ..); ⟨t.code, t.bm, t.gP⟩
    have T6 : GxR.TabB base mg c6 P6 := let t := TB (c6, P6) (List.mem_cons_of_mem _ (List.mem_cons_self ..)); ⟨t.code, t.bm, t.gP⟩
    have kN : KNames K w dN := ⟨⟨esN, nN, _, ldN, kkN, xN0, ⟨_, rfl⟩⟩, ⟨esN, nN, _, ldN, kkN, xN1, ⟨_, rfl⟩⟩, ⟨esN, nN, _, ldN, kkN, xN2, ⟨_, rfl⟩⟩, ⟨esN, nN, _, ldN, kkN, xN3, ⟨_, rfl⟩⟩, ⟨esN, nN, _, ldN, kkN, xN4, ⟨_, rfl⟩⟩⟩
    have kE : KEnds K w dE := ⟨⟨esE, nE, _, ldE, kkE, xE0, ⟨_, rfl⟩⟩, ⟨esE, nE, _, ldE, kkE, xE1, ⟨_, rfl⟩⟩⟩
    have m_NAME_AT : ∃ u, mg "NAME_AT" = some u ∧ RelV (.ref dN) u := ⟨_, PySem.W.mg_of X G zN, rfl⟩
    have m_ENDS : ∃ u, mg "ENDS" = some u ∧ RelV (.ref dE) u := ⟨_, PySem.W.mg_of X G zE, rfl⟩
    have m_DOING : ∃ u, mg "DOING" = some u ∧ RelV (.ref dD) u := ⟨_, PySem.W.mg_of X G zD, rfl⟩
    have SO : Cal l.prog w K mg base 1 "set_of" ["pairs"] (spSetOf K) := ⟨_, _, ok_setof F0 m_sorted m_max, g a0, k0, b0⟩
    have EI : Cal l.prog w K mg base 2 "either" ["one", "other"] (spEither K) := ⟨_, _, ok_either F1 SO, g a1, k1, b1⟩
    have BO : Cal l.prog w K mg base 1 "both_of" ["one", "other"] (spBoth K) := ⟨_, _, ok_both F2 m_len m_max m_min, g a2, k2, b2⟩
    have GA : Cal l.prog w K mg base 2 "gaps_of" ["some", "begin", "end"] (spGaps K) := ⟨_, _, ok_gaps F3 SO m_max m_min, g a3, k3, b3⟩
    have WI : Cal l.prog w K mg base 3 "without" ["one", "other"] (spWithout K) := ⟨_, _, ok_without F4 BO GA, g a4, k4, b4⟩
    have LA : Cal l.prog w K mg base 3 "lay" ["store", "spot", "cases"] (spLay K) := ⟨_, _, ok_Lay F8 EI, g a8, k8, b8⟩
    have TS : Cal l.prog w K mg base 4 "take" ["store", "spot", "asked"] (spTakeS K) := ⟨_, _, ok_TakeS F9 WI BO, g a9, k9, b9⟩
    have CY : Cal l.prog w K mg base 5 "carry" ["store", "holder", "goal", "asked"] (spCarry K) := ⟨_, _, ok_Carry F10 TS LA WI m_LYING, g a10, k10, b10⟩
    have hP : Held l.prog w K mg base 6 f11 (spDo isPack) := ⟨_, _, ok_DoPack F11 LA m_LYING, k11, b11⟩
    have hL : Held l.prog w K mg base 6 f12 (spDo isLade) := ⟨_, _, ok_DoLade F12 CY m_LYING, k12, b12⟩
    have hE : Held l.prog w K mg base 6 f13 (spDo isEnd) := ⟨_, _, ok_DoEnd kE F13 CY m_ENDS, k13, b13⟩
    have hT : Held l.prog w K mg base 6 f14 (spDo isTell) := ⟨_, _, ok_DoTell F14 EI TS WI CY LA m_LYING m_LACKING, k14, b14⟩
    have hA := sd_held hP hL hE hT
    have hD := sd_doing (fn_ne l12 l11 (by show ("do_lade" : Str) ≠ "do_pack"; decide +kernel)) (fn_ne l13 l11 (by show ("do_end" : Str) ≠ "do_pack"; decide +kernel)) (fn_ne l13 l12 (by show ("do_end" : Str) ≠ "do_lade"; decide +kernel)) (fn_ne l14 l11 (by show ("do_tell" : Str) ≠ "do_pack"; decide +kernel)) (fn_ne l14 l12 (by show ("do_tell" : Str) ≠ "do_lade"; decide +kernel)) (fn_ne l14 l13 (by show ("do_tell" : Str) ≠ "do_end"; decide +kernel)) ⟨esD, nD, _, ldD, kkD, xD0, rfl⟩ ⟨esD, nD, _, ldD, kkD, xD1, rfl⟩ ⟨esD, nD, _, ldD, kkD, xD2, rfl⟩ ⟨esD, nD, _, ldD, kkD, xD3, rfl⟩ ⟨esD, nD, _, ldD, kkD, xD4, rfl⟩
    have IO : Cal l.prog w K mg base 4 "in_order" ["pages"] (spInOrder K ⟨[P5], [(P6, qO)]⟩ [P6, P5] P6) := ⟨_, _, ok_InOrder l6 c6' ⟨T6.code, T6.bm, T6.gP⟩ m_sorted, g a6, k6, b6⟩
    have WO : Cal l.prog w K mg base 1 "word_of" ["deed", "packed"] spWordOf := ⟨_, _, ok_WordOf kN F15 m_NAME_AT m_DONE, g a15, k15, b15⟩
    have CS : Cal l.prog w K mg base 2 "cases_at" ["store", "word"] (spCasesAt K) := ⟨_, _, ok_CasesAt F7 SO, g a7, k7, b7⟩
    have GO : Cal l.prog w K mg base 7 "gone_through" ["heap", "day"] (spGone K ⟨[P5], [(P6, qO)]⟩ [P6, P5] P6) := ⟨_, _, ok_Gone kN hA hD F16 IO WO m_NAME_AT m_DONE m_DOING, g a16, k16, b16⟩
    have LY : Cal l.prog w K mg base 1 "lying_in" ["stores"] (spLying K) := ⟨_, _, ok_Lying F17 m_LYING m_sorted, g a17, k17, b17⟩
    have EN : Cal l.prog w K mg base 3 "ends_in" ["stores"] (spEnds K) := ⟨_, _, ok_Ends F18 CS m_BACK m_LACKING m_SOLD m_sorted, g a18, k18, b18⟩
    have ST : Cal l.prog w K mg base 8 "standing" ["heap", "day"] (spStanding K ⟨[P5], [(P6, qO)]⟩ [P6, P5] P6) := ⟨_, _, ok_Standing F19 GO LY EN m_DONE, g a19, k19, b19⟩
    have II : Cal l.prog w K mg base 4 "is_in" ["some", "number"] (spIsIn K ⟨[P5], [(P6, qO)]⟩ [P6, P5] P5) := ⟨_, _, ok_IsIn l5 c5' ⟨T5.code, T5.bm, T5.gP⟩ m_any, g a5, k5, b5⟩
    have WY : Cal l.prog w K mg base 8 "way_of" ["heap", "day", "name", "case"] (spWay K ⟨[P5], [(P6, qO)]⟩ [P6, P5] P6 P5) := ⟨_, _, ok_Way F20 GO II, g a20, k20, b20⟩
    have BE : Cal l.prog w K mg base 1 "_law_begin" ["_law_script"] (spBegin K) := ⟨_, _, ok_begin F21 m_list, g a21, k21, b21⟩
    have TE : Cal l.prog w K mg base 1 "_law_take" ["_law_state", "_law_many"] spTake := ⟨_, _, ok_take F22 m_len m_divmod, g a22, k22, b22⟩
    have E0_ : Cal l.prog w K mg base 1 "_law_same" ["_law_found", "_law_due"] (spSame 0) := ⟨_, _, ok_same0 F23 m_isinstance m_list m_tuple m_bool m_str m_int, g a23, k23, b23⟩
    have E1_ : Cal l.prog w K mg base 2 "_law_same" ["_law_found", "_law_due"] (spSame 1) := ⟨_, _, ok_sameS F23 E0_ m_isinstance m_list m_tuple m_bool m_str m_int m_len m_all m_zip, g a23, k23, b23⟩
    have E2_ : Cal l.prog w K mg base 3 "_law_same" ["_law_found", "_law_due"] (spSame 2) := ⟨_, _, ok_sameS F23 E1_ m_isinstance m_list m_tuple m_bool m_str m_int m_len m_all m_zip, g a23, k23, b23⟩
    have E3_ : Cal l.prog w K mg base 4 "_law_same" ["_law_found", "_law_due"] (spSame 3) := ⟨_, _, ok_sameS F23 E2_ m_isinstance m_list m_tuple m_bool m_str m_int m_len m_all m_zip, g a23, k23, b23⟩
    have E4_ : Cal l.prog w K mg base 5 "_law_same" ["_law_found", "_law_due"] (spSame 4) := ⟨_, _, ok_sameS F23 E3_ m_isinstance m_list m_tuple m_bool m_str m_int m_len m_all m_zip, g a23, k23, b23⟩
    have NA : Cal l.prog w K mg base 2 "_law_names" ["_law_state", "_law_many"] spNamesB := ⟨_, _, ok_Names F24 TE m_range m_len, g a24, k24, b24⟩
    have LS : Cal l.prog w K mg base 1 "_law_set" ["_law_numbers_here"] spLSetN := ⟨_, _, ok_LSet F25 m_sorted m_set, g a25, k25, b25⟩
    have NU : Cal l.prog w K mg base 1 "_law_numbers" ["_law_some"] spLNum := ⟨_, _, ok_LNum F26 m_list m_range, g a26, k26, b26⟩
    have OF_ : Cal l.prog w K mg base 2 "_law_of" ["_law_where", "_law_word"] spLOf := ⟨_, _, ok_LOf F27 LS, g a27, k27, b27⟩
    have SS_ : Cal l.prog w K mg base 7 "_law_stands" ["_law_found", "_law_where", "_law_name", "_law_holders"] (spLStands K) := ⟨_, _, ok_LStands F28 OF_ E4_ m_sorted, g a28, k28, b28⟩
    have TD_ : Cal l.prog w K mg base 2 "_law_told" ["_law_state", "_law_where", "_law_holder", "_law_many"] spLTold := ⟨_, _, ok_LTold F29 TE LS, g a29, k29, b29⟩
    exact ok_Law F30 BE NA TE TD_ NU SS_ ST E4_ WY m_range m_dict m_len
end TK
open PySem PySem.W PyProof.Rows
set_option maxHeartbeats 0 in
theorem PySem.Challenge.cw_tinrecall_k52_tells_and_what_lacks_holds : PySem.Challenge.rw_tinrecall_k52_tells_and_what_lacks.Holds := by
  w_on; o_law; k_head; (case hw => w_witness2)
  k_fill
  refine TK.law_end (l := PySem.Challenge.rw_tinrecall_k52_tells_and_what_lacks) (k := 9) rfl rfl ⟨rfl, by decide, by decide⟩ (fun w h Y => PySem.W.km_in_of Y) ?made
  case made =>
    intro w mg f h KX G hmg TT
    refine' TK.all_mk KX G hmg TT ?a0 ?l0 ?c0 ?k0 ?a1 ?l1 ?c1 ?k1 ?a2 ?l2 ?c2 ?k2 ?a3 ?l3 ?c3 ?k3 ?a4 ?l4 ?c4 ?k4 ?a5 ?l5 ?c5 ?k5 ?a6 ?l6 ?c6 ?k6 ?a7 ?l7 ?c7 ?k7 ?a8 ?l8 ?c8 ?k8 ?a9 ?l9 ?c9 ?k9 ?a10 ?l10 ?c10 ?k10 ?a11 ?l11 ?c11 ?k11 ?a12 ?l12 ?c12 ?k12 ?a13 ?l13 ?c13 ?k13 ?a14 ?l14 ?c14 ?k14 ?a15 ?l15 ?c15 ?k15 ?a16 ?l16 ?c16 ?k16 ?a17 ?l17 ?c17 ?k17 ?a18 ?l18 ?c18 ?k18 ?a19 ?l19 ?c19 ?k19 ?a20 ?l20 ?c20 ?k20 ?a21 ?l21 ?c21 ?k21 ?a22 ?l22 ?c22 ?k22 ?a23 ?l23 ?c23 ?k23 ?a24 ?l24 ?c24 ?k24 ?a25 ?l25 ?c25 ?k25 ?a26 ?l26 ?c26 ?k26 ?a27 ?l27 ?c27 ?k27 ?a28 ?l28 ?c28 ?k28 ?a29 ?l29 ?c29 ?k29 ?a30 ?l30 ?c30 ?k30 ?lc5 ?v5 ?nP5 ?r5 ?lc6 ?v6 ?nP6 ?r6 ?zc_LYING ?zc_SOLD ?zc_BACK ?zc_LACKING ?zc_DONE ?x_PP ?zN ?ldN ?kkN ?xN0 ?xN1 ?xN2 ?xN3 ?xN4 ?zE ?ldE ?kkE ?xE0 ?xE1 ?zD ?ldD ?kkD ?xD0 ?xD1 ?xD2 ?xD3 ?xD4 ?z_all ?z_any ?z_bool ?z_dict ?z_divmod ?z_int ?z_isinstance ?z_len ?z_list ?z_max ?z_min ?z_range ?z_set ?z_sorted ?z_str ?z_tuple ?z_zip
    (case a0 => k_is); (case l0 => k_is); (case c0 => k_is); (case k0 => k_is)
    (case a1 => k_is); (case l1 => k_is); (case c1 => k_is); (case k1 => k_is)
    (case a2 => k_is); (case l2 => k_is); (case c2 => k_is); (case k2 => k_is)
    (case a3 => k_is); (case l3 => k_is); (case c3 => k_is); (case k3 => k_is)
    (case a4 => k_is); (case l4 => k_is); (case c4 => k_is); (case k4 => k_is)
    (case a5 => k_is); (case l5 => k_is); (case c5 => k_is); (case k5 => k_is)
    (case a6 => k_is); (case l6 => k_is); (case c6 => k_is); (case k6 => k_is)
    (case a7 => k_is); (case l7 => k_is); (case c7 => k_is); (case k7 => k_is)
    (case a8 => k_is); (case l8 => k_is); (case c8 => k_is); (case k8 => k_is)
    (case a9 => k_is); (case l9 => k_is); (case c9 => k_is); (case k9 => k_is)
    (case a10 => k_is); (case l10 => k_is); (case c10 => k_is); (case k10 => k_is)
    (case a11 => k_is); (case l11 => k_is); (case c11 => k_is); (case k11 => k_is)
    (case a12 => k_is); (case l12 => k_is); (case c12 => k_is); (case k12 => k_is)
    (case a13 => k_is); (case l13 => k_is); (case c13 => k_is); (case k13 => k_is)
    (case a14 => k_is); (case l14 => k_is); (case c14 => k_is); (case k14 => k_is)
    (case a15 => k_is); (case l15 => k_is); (case c15 => k_is); (case k15 => k_is)
    (case a16 => k_is); (case l16 => k_is); (case c16 => k_is); (case k16 => k_is)
    (case a17 => k_is); (case l17 => k_is); (case c17 => k_is); (case k17 => k_is)
    (case a18 => k_is); (case l18 => k_is); (case c18 => k_is); (case k18 => k_is)
    (case a19 => k_is); (case l19 => k_is); (case c19 => k_is); (case k19 => k_is)
    (case a20 => k_is); (case l20 => k_is); (case c20 => k_is); (case k20 => k_is)
    (case a21 => k_is); (case l21 => k_is); (case c21 => k_is); (case k21 => k_is)
    (case a22 => k_is); (case l22 => k_is); (case c22 => k_is); (case k22 => k_is)
    (case a23 => k_is); (case l23 => k_is); (case c23 => k_is); (case k23 => k_is)
    (case a24 => k_is); (case l24 => k_is); (case c24 => k_is); (case k24 => k_is)
    (case a25 => k_is); (case l25 => k_is); (case c25 => k_is); (case k25 => k_is)
    (case a26 => k_is); (case l26 => k_is); (case c26 => k_is); (case k26 => k_is)
    (case a27 => k_is); (case l27 => k_is); (case c27 => k_is); (case k27 => k_is)
    (case a28 => k_is); (case l28 => k_is); (case c28 => k_is); (case k28 => k_is)
    (case a29 => k_is); (case l29 => k_is); (case c29 => k_is); (case k29 => k_is)
    (case a30 => k_is); (case l30 => k_is); (case c30 => k_is); (case k30 => k_is)
    (case lc5 => k_is); (case v5 => exact rfl); (case nP5 => exact rfl); (case r5 => decide +kernel)
    (case lc6 => k_is); (case v6 => exact rfl); (case nP6 => exact rfl); (case r6 => decide +kernel)
    (case zc_LYING => k_is)
    (case zc_SOLD => k_is)
    (case zc_BACK => k_is)
    (case zc_LACKING => k_is)
    (case zc_DONE => k_is)
    (case x_PP => decide)
    (case zN => k_is)
    (case ldN => k_is)
    (case kkN => k_keys)
    (case xN0 => k_is)
    (case xN1 => k_is)
    (case xN2 => k_is)
    (case xN3 => k_is)
    (case xN4 => k_is)
    (case zE => k_is)
    (case ldE => k_is)
    (case kkE => k_keys)
    (case xE0 => k_is)
    (case xE1 => k_is)
    (case zD => k_is)
    (case ldD => k_is)
    (case kkD => k_keys)
    (case xD0 => k_is)
    (case xD1 => k_is)
    (case xD2 => k_is)
    (case xD3 => k_is)
    (case xD4 => k_is)
    (case z_all => k_is); (case z_any => k_is); (case z_bool => k_is); (case z_dict => k_is); (case z_divmod => k_is); (case z_int => k_is); (case z_isinstance => k_is); (case z_len => k_is); (case z_list => k_is); (case z_max => k_is); (case z_min => k_is); (case z_range => k_is); (case z_set => k_is); (case z_sorted => k_is); (case z_str => k_is); (case z_tuple => k_is); (case z_zip => k_is)

