import PyProof.Rows.All
import Wide.All
import OpenK.AllK
import Wide.FinOn
import HandS.ForMost
import HandS.WideBits
import HandS.IsInst
import HandS.Style
import HandS.AnyAll
import HandS.Nested
import HandS.Walk
import HandS.Evl
import HandS.EndTab
import HandS.SortInts
import HandS.SortRule
import HandS.Conv
import HandS.Star
import HandS.Codes
import HandS.Wide
import HandS.Zip
import HandS.DictComp
import HandS.SetFor
import HandS.SetKeys
import HandS.StrMore
import HandS.Replace
import PyProof.ReprRoads
import PyProof.ReprLen
import HandS.Small
import HandS.More
import KE.KDictPairs
import KE.GoesMore
import KE.GoesEnum
import PyProof.SumAny
import PyProof.WalksPairs
import PyProof.GenCompT
import HandS.Lambda
import KE.SortKeyHeap
import HandS.Sort
import HandS.Conv
import HandS.ExcValue
import HandS.ExcOwn
import KE.SortData
import HandS.Deep
import PySem.Challenge.RW_tinrecall_k40_fewest_samples_by_trying
set_option Elab.async false
set_option linter.all false
set_option maxRecDepth 100000
set_option maxHeartbeats 5000000
/-! ## sum(.. for a, b in ..): a generator expression over a list or a tuple of pairs of whole numbers -/
namespace GP
open PySem PySem.Spec PyProof.Rows L2 GxR

/-- a walk whose items are tuples that stand still -/
theorem asTuples {prog : Program} {w : World} {A : Around} {it : Addr} {foot : List Addr} {n : Nat} {Item : Nat → Value → Prop} {At : Nat → Heap → Prop} (W : Walks prog w A it foot [it] n Item At) (loc : Nat → Addr) (held : Nat → Array Value)
    (isT : ∀ j v, j < n → Item j v → v = .ref (loc j)) (apt : ∀ j, j < n → loc j ≠ it)
    (letGo : ∀ (es : List Expr) (k : Nat) (pos : Pos) (j : Nat) (T : Addr) (s : Shared) (Q : Unit → Shared → Prop) (E : Value → Shared → Prop), At j s.heap → Q () s → wpAny (model prog w) A (letOwnedTupleGo (.Tuple es k pos) (.ref it) (.ref T)) Q E s) :
    WalksU prog w A it (foot ++ (List.range n).map loc) [it] n (fun j xs => xs = held j) (fun j h => At j h ∧ ∀ m, m < n → h.IsTuple (loc m) (held m))
      (fun j T h => (j < n ∧ T = loc j) ∧ At (j + 1) h ∧ ∀ m, m < n → h.IsTuple (loc m) (held m)) := by
  have inFoot : ∀ m, m < n → loc m ∈ foot ++ (List.range n).map loc := fun m hm => List.mem_append.mpr (.inr (List.mem_map.mpr ⟨m, List.mem_range.mpr hm, rfl⟩))
  constructor
  case sub => exact fun b hb => List.mem_append.mpr (.inl (W.sub b hb))
  case frame =>
    intro j h h' ⟨a1, a2⟩ kept
    refine ⟨W.frame j h h' a1 fun b hb => kept b (List.mem_append.mpr (.inl hb)), fun m hm => ?_⟩
    obtain ⟨o, e, r⟩ := a2 m hm
    exact ⟨o, kept _ (inFoot m hm) o e, r⟩
  case item =>
    intro j s Q E hj ⟨a1, a2⟩ fin
    refine W.item j s Q E hj a1 fun v h' tk hv a1' kept => ?_
    have still : ∀ m, m < n → h'.IsTuple (loc m) (held m) := fun m hm => by
      obtain ⟨o, e, r⟩ := a2 m hm
      exact ⟨o, kept _ o (fun z => apt m hm (List.mem_singleton.mp z)) e, r⟩
    rw [isT j v hj hv]
    exact fin (loc j) (held j) h' tk rfl (still j hj) ⟨⟨hj, rfl⟩, a1', still⟩ kept
  case go =>
    intro es k pos j T s Q E hm fin
    exact letGo es k pos (j + 1) T s Q E hm.2.1 (fin s.heap hm.2 fun _ _ _ e => e)
  case apart =>
    intro j T h hm z
    rw [hm.1.2] at z
    exact apt j hm.1.1 (List.mem_singleton.mp z)
  case done => exact fun s Q E a fin => W.done s Q E a.1 fin
  case self => exact fun j s Q E a fin => W.self j s Q E a.1 fin

/-- the values vs are tuples that hold the pairs ps -/
def Prs (H : Hp) (vs : List V) (ps : List (Int × Int)) : Prop := vs.length = ps.length ∧ ∀ (i : Nat) p, ps[i]? = some p → ∃ a, vs[i]? = some (.ref a) ∧ H a = some (.tup [.int p.1, .int p.2])

/-- what is asked of the expression's own scope: the two names are its locals, its captured names are the def's -/
def OwnScope (env : Env) (sc : Scope) (xa xb : Str) : Prop :=
  (sc.kind = .function ∧ sc.isCoroutine = false ∧ xa ≠ xb) ∧ (sc.names.lookup (".0" : Str) = some .local ∧ sc.names.lookup xa = some .local ∧ sc.names.lookup xb = some .local) ∧
  (∀ y ∈ sc.names, y.2 ≠ NameKind.cell) ∧ ∀ y ∈ sc.names, y.2 = NameKind.free → ∃ c, env.cells.lookup y.1 = some c

section
variable {X : Cx} {s : Shared} {H : Hp} {σ : L2.St} {pins : List (Addr × Obj)}
/-- a tracked pair in the machine's heap -/
theorem pair_in {T : Addr} {p : Int × Int} (I : Inv X pins σ H s) (e : H T = some (.tup [.int p.1, .int p.2])) : ∃ ta tb, s.heap.IsTuple T #[.int p.1 ta, .int p.2 tb] := by
  obtain ⟨_, its, r, t⟩ := I.hok T _ e
  cases r with
  | cons q1 r =>
    cases r with
    | cons q2 r =>
      cases r
      obtain ⟨ta, rfl⟩ := q1
      obtain ⟨tb, rfl⟩ := q2
      exact ⟨ta, tb, t⟩
/-- the pairs by place: where they stand and what they hold -/
theorem pairs_in {vs : List V} {ps : List (Int × Int)} {its : List Value} (I : Inv X pins σ H s) (hp : Prs H vs ps) (r : Vals vs its) :
    ∃ (loc : Nat → Addr) (held : Nat → Array Value), ∀ j, j < ps.length → its[j]? = some (.ref (loc j)) ∧ s.heap.IsTuple (loc j) (held j) ∧ ∃ p ta tb, ps[j]? = some p ∧ held j = #[.int p.1 ta, .int p.2 tb] := by
  have one : ∀ j, ∃ (T : Addr) (xs : Array Value), j < ps.length → its[j]? = some (.ref T) ∧ s.heap.IsTuple T xs ∧ ∃ p ta tb, ps[j]? = some p ∧ xs = #[.int p.1 ta, .int p.2 tb] := fun j => by
    by_cases hj : j < ps.length
    · obtain ⟨T, e1, e2⟩ := hp.2 j ps[j] (List.getElem?_eq_getElem hj)
      obtain ⟨u, eu, ru⟩ := r.get e1
      cases ru
      obtain ⟨ta, tb, t⟩ := pair_in I e2
      exact ⟨T, _, fun _ => ⟨eu, t, ps[j], ta, tb, List.getElem?_eq_getElem hj, rfl⟩⟩
    · exact ⟨0, #[], fun z => absurd z hj⟩
  exact ⟨fun j => (one j).choose, fun j => (one j).choose_spec.choose, fun j hj => (one j).choose_spec.choose_spec hj⟩

/-- what a walk over the pairs is, begun at the new iterator that o is -/
def Begun (X : Cx) (s : Shared) (P : Addr) (ps : List (Int × Int)) (o : Obj) : Prop :=
  ∃ (foot : List Addr) (Hold : Nat → Array Value → Prop) (At : Nat → Heap → Prop) (Mid : Nat → Addr → Heap → Prop),
    (∀ A' : Around, A'.handled = none → WalksU X.prog X.w A' s.heap.objs.size foot [s.heap.objs.size] ps.length (fun j xs => j < ps.length ∧ Hold j xs) At Mid) ∧
    (∀ j xs, j < ps.length → Hold j xs → ∃ p ta tb, ps[j]? = some p ∧ xs = #[.int p.1 ta, .int p.2 tb]) ∧ At 0 (s.heap.push o) ∧ ∀ b ∈ foot, b < s.heap.objs.size + 1 ∧ b ≠ P
theorem begin_pairs {a P : Addr} {vs : List V} {ps : List (Int × Int)} {tb : Array Value} {Q' : Value → Shared → Prop} (I : Inv X pins σ H s) (hS : SqL X.K H a vs ∨ SqT X.K H a vs) (hp : Prs H vs ps) (hP : H P = some (.tbl tb))
    (fin : ∀ o, Begun X s P ps o → Q' (.ref s.heap.objs.size) { s with heap := s.heap.push o }) : wpAny (model X.prog X.w) X.A (pyIter (.ref a)) Q' X.xe s := by
  have hPo : s.heap.get? P = some { cls := .none, data := .fields tb } := I.hok P _ hP
  have notP : ∀ (b : Addr) (o : Obj) (xs : Array Value) (n : Nat), s.heap.get? b = some o → o.data = .seq xs n → b ≠ P := fun b o xs n e d z => by
    rw [z, hPo] at e
    rw [← Option.some.inj e] at d
    cases d
  have newP : s.heap.objs.size ≠ P := fun z => Nat.lt_irrefl _ (Nat.lt_of_lt_of_eq (Heap.lt_size hPo) z)
  -- from a walk over the items to the pairs
  have mk : ∀ (its : List Value) (o : Obj) (At : Nat → Heap → Prop), Vals vs its → a < s.heap.objs.size → a ≠ P → At 0 (s.heap.push o) →
      (∀ A' : Around, A'.handled = none → Walks X.prog X.w A' s.heap.objs.size [s.heap.objs.size, a] [s.heap.objs.size] its.toArray.size (fun i v => its.toArray[i]? = some v) At) →
      (∀ (A' : Around) (es : List Expr) (k : Nat) (pos : Pos) (j : Nat) (T : Addr) (s' : Shared) (Q : Unit → Shared → Prop) (E : Value → Shared → Prop), At j s'.heap → Q () s' → wpAny (model X.prog X.w) A' (letOwnedTupleGo (.Tuple es k pos) (.ref s.heap.objs.size) (.ref T)) Q E s') →
      Begun X s P ps o := by
    intro its o At r ha haP a0 W go
    obtain ⟨loc, held, hl⟩ := pairs_in I hp r
    have ln : its.toArray.size = ps.length := by rw [List.size_toArray, ← r.length, hp.1]
    have below : ∀ m, m < ps.length → loc m < s.heap.objs.size ∧ loc m ≠ P := fun m hm => by
      obtain ⟨_, ⟨ob, e, _, n, d⟩, _⟩ := hl m hm
      exact ⟨Heap.lt_size e, notP _ _ _ _ e d⟩
    refine ⟨_, _, _, _, fun A' hA => (asTuples (ln ▸ W A' hA) loc held (fun j v hj e => ?_) (fun j hj => Nat.ne_of_lt (below j hj).1) (fun es k pos j T s' Q E => go A' es k pos j T s' Q E)).bound, fun j xs hj e => ?_, ⟨a0, fun m hm => ?_⟩, fun b hb => ?_⟩
    · have e2 : its[j]? = some v := by simpa using e
      rw [(hl j hj).1] at e2
      exact (Option.some.inj e2).symm
    · obtain ⟨_, _, p, ta, tb', e1, e2⟩ := hl j hj
      exact ⟨p, ta, tb', e1, (show xs = held j from e).trans e2⟩
    · obtain ⟨_, ⟨ob, e, rest⟩, _⟩ := hl m hm
      exact ⟨ob, Heap.get?_push_of_some _ e, rest⟩
    · rcases List.mem_append.mp hb with z | z
      · rcases List.mem_cons.mp z with e | e
        · rw [e]; exact ⟨Nat.lt_succ_self _, newP⟩
        · rw [List.mem_singleton.mp e]; exact ⟨Nat.lt_succ_of_lt ha, haP⟩
      · obtain ⟨m, hm, e⟩ := List.mem_map.mp z
        obtain ⟨h1, h2⟩ := below m (List.mem_range.mp hm)
        rw [← e]; exact ⟨Nat.lt_succ_of_lt h1, h2⟩
  rcases hS with hS | hS
  · obtain ⟨its, r, hl, _⟩ := I.list hS
    obtain ⟨o, e, c, n, d⟩ := hl.isList
    refine wpAny_pyIter_list hl.isList (fin _ (mk its _ _ r (Heap.lt_size e) (notP _ _ _ _ e d) ⟨⟨_, Heap.get?_push_size _ rfl, rfl, rfl⟩, ⟨o, Heap.get?_push_of_some _ e, c, n, d⟩⟩ (fun A' hA => Walks.list hA _ a (Nat.ne_of_lt (Heap.lt_size e)) its.toArray) ?_))
    exact fun A' es k pos j T s' Q E at_ q => wpAny_letOwnedTupleGo_listiter at_.1 q
  · obtain ⟨its, r, ⟨o, e, c, n, d⟩, _⟩ := I.tuple hS
    refine wpAny_pyIter_tuple (items := its.toArray) ⟨o, e, c, n, d⟩ (fin _ (mk its _ _ r (Heap.lt_size e) (notP _ _ _ _ e d) ⟨⟨_, Heap.get?_push_size _ rfl, rfl, rfl⟩, ⟨o, Heap.get?_push_of_some _ e, c, n, d⟩⟩ (fun A' hA => Walks.tuple hA _ a (Nat.ne_of_lt (Heap.lt_size e)) its.toArray) ?_))
    exact fun A' es k pos j T s' Q E at_ q => letGo_tupleiter at_.1 q

/-- the expression's code object is made, or found: the table may grow, all else stands -/
theorem code_there {c P : Addr} {gpos : Pos} {qual : Str} {sc : Scope} {tb : Array Value} {Q' : Value → Shared → Prop} {E : Value → Shared → Prop} (hcode : X.env.code = .ref c) (C : PySem.W.CodeHd s.heap c P) (hP : s.heap.get? P = some { cls := .none, data := .fields tb }) (ok : TriplesOk tb.toList)
    (fin : ∀ (code : Value) (h' : Heap) (tk : Nat) (more : Array Value), Heap.ExtBut P s.heap h' → s.heap.objs.size ≤ h'.objs.size → h'.get? P = some { cls := .none, data := .fields (tb ++ more) } → TriplesOk (tb ++ more).toList → Q' code { s with heap := h', toks := tk }) :
    wpAny (model X.prog X.w) X.A (genexprCode X.env gpos qual sc) Q' E s := by
  cases found : codeAmong gpos tb.toList with
  | some old =>
    refine wpAny_genexprCode_hit hcode (C.code hP ok) found ?_
    have e : tb ++ #[] = tb := by simp
    exact fin old s.heap s.toks #[] (Heap.ExtBut.refl _ _) (Nat.le_refl _) (by rw [e]; exact hP) (by rw [e]; exact ok)
  | none =>
    refine wpAny_genexprCodeX hcode (C.code hP ok) (C.tab hP) found fun c' h' tk ext le lt isC _ tab _ => ?_
    obtain ⟨_, _, _, _, _, _, _, _, _, _, _, _, _, _, _, _, _, _, _, okT, _⟩ := isC
    exact fin _ h' tk _ ext (Nat.le_trans le (Nat.le_of_lt lt)) tab.2 okT

/-- the element at a pair of whole numbers: what it gives, wherever the expression runs later -/
def EltAt (X : Cx) (s₁ : Shared) (P : Addr) (sc : Scope) (xa xb : Str) (elt : Expr) (Gives : Int → Int → Value → Prop) : Prop :=
  ∀ (L : Addr) (code : Value) (A' : Around) (E' : Value → Shared → Prop) (a b : Int) (ta tb : Tok) (s₂ : Shared) (m : Str → Option Value), A'.handled = none →
    (∀ x o, x ≠ P → s₁.heap.get? x = some o → s₂.heap.get? x = some o) → s₂.heap.Ns L m → m xa = some (.int a ta) → m xb = some (.int b tb) →
    wpAny (model X.prog X.w) A' (eval elt (genEnv sc (cloFrom X.env.cells sc.names []) L code builtinsNs X.env)) (fun y s₃ => Gives a b y ∧ Keeps s₂ s₃) E' s₂

/-- the generator at g, in the state s₅, before its first item; H₁: what was held when it was made -/
def Fresh (X : Cx) (pins : List (Addr × Obj)) (σ : L2.St) (H₁ : Hp) (P : Addr) (ps : List (Int × Int)) (Gives : Int → Int → Value → Prop) (g : Addr) (s₅ : Shared) : Prop :=
  ∃ (foot writes : List Addr) (Gens : Array GenState → Array GenState → Prop) (Item : Nat → Value → Prop) (At : Nat → Shared → Prop),
    (WalksS X.prog X.w X.A.in1 g foot writes Gens ps.length Item At ∧ At 0 s₅ ∧ ∀ b ∈ foot, b < s₅.heap.objs.size) ∧
    (∀ j v, Item j v → ∃ p, ps[j]? = some p ∧ Gives p.1 p.2 v) ∧ ∀ s₆, Moved writes Gens s₅ s₆ → ∃ H₂, Tabbed P H₁ H₂ ∧ Inv X pins σ H₂ s₆

theorem gen_made {c P : Addr} {elt iter : Expr} {xa xb : Str} {pa pb pt gpos : Pos} {kt : Nat} {sc : Scope} {te : TE} {k : Nat} {Q' : Value → Shared → Prop} {Want : List (Int × Int) → Hp → Prop} {Gives : Int → Int → Value → Prop}
    (room : Room k X.A) (TB : TabB X.base X.mg c P) (hcode : X.env.code = .ref c) (own : OwnScope X.env sc xa xb) (walked : PE X iter te) (plain : ∀ v, genFold iter X.env v = pure v) (I : Inv X pins σ H s)
    (each : ∀ s₁ H₁, Inv X pins σ H₁ s₁ → TabG H₁ P → EltAt X s₁ P sc xa xb elt Gives)
    (h : te σ H fun v H₁ => ∃ (a : Addr) (vs : List V) (ps : List (Int × Int)), v = .ref a ∧ (SqL X.K H₁ a vs ∨ SqT X.K H₁ a vs) ∧ Prs H₁ vs ps ∧ TabG H₁ P ∧ Want ps H₁)
    (fin : ∀ ps H₁ g s₅, Want ps H₁ → Fresh X pins σ H₁ P ps Gives g s₅ → Q' (.ref g) s₅) :
    wpAny (model X.prog X.w) X.A (eval (.GeneratorExp elt [⟨.Tuple [.Name xa pa, .Name xb pb] kt pt, iter, [], 0⟩] sc gpos) X.env) Q' X.xe s := by
  obtain ⟨⟨o1, o2, o3⟩, ⟨o4, o5, o6⟩, o7, o8⟩ := own
  have deep : X.A.depth < recursionLimit := by have := room.dp; omega
  refine wpAny_GeneratorExp_walksQT room.hd o2 (closure_ok o8) o7 o4 o5 o6 o3 o1 deep (thn (walked.run pins s σ H _ I h) fun u s₁ had => ?_) plain
  obtain ⟨_, H₁, I₁, rel, a, vs, ps, rfl, hS, hp, ⟨tb, hP, ok⟩, want⟩ := had
  cases rel
  have tabAt : s₁.heap.get? P = some { cls := .none, data := .fields tb } := I₁.hok P _ hP
  refine begin_pairs I₁ hS hp hP fun o beg => ?_
  obtain ⟨foot, Hold, At, Mid, W, holds, at0, low⟩ := beg
  have statics : cStatics < s₁.heap.objs.size ∧ cStatics ≠ P := by
    obtain ⟨_, ns, _⟩ := I₁.nolimit
    refine ⟨ns.lt, fun z => ?_⟩
    obtain ⟨ob, _, _, e, d, _⟩ := ns
    rw [z, tabAt] at e
    rw [← Option.some.inj e] at d
    cases d
  have quiet : (s₁.heap.push o).NoLimit := I₁.nolimit.push o
  refine ⟨quiet, code_there hcode (TB.code.keeps fun b u e => Heap.get?_push_of_some _ (I₁.bk b u e)) (Heap.get?_push_of_some _ tabAt) ok fun code h₃ tk more ext le tab₃ ok₃ => ?_⟩
  rw [Heap.size_push] at le
  have stays : ∀ b u, b ≠ P → s₁.heap.get? b = some u → h₃.get? b = some u := fun b u hb e => ext b u hb (Heap.get?_push_of_some _ e)
  obtain ⟨bm, ob, f1, f2, f3, f4, f5, f6, f7, f8⟩ := TB.bm
  have globals : Heap.Ns h₃ X.env.globals X.mg := by
    rw [I₁.ok.glob]
    exact ((I₁.mod.glob.keeps I₁.bk).push o).extBut ext TB.gP
  refine wpAny_builtinsFor (m := X.mg) globals f1 f2 (stays bm ob f4 (I₁.bk bm ob f5)) f6 f7 f8 ?_
  have later : ∀ b u, s₁.heap.get? b = some u → b ∉ [h₃.objs.size, s₁.heap.objs.size] := fun b u e z => by
    have lt := Heap.lt_size e
    rcases List.mem_cons.mp z with z' | z'
    · exact Nat.lt_irrefl _ (Nat.lt_of_lt_of_le (z' ▸ lt) (Nat.le_of_succ_le le))
    · exact Nat.lt_irrefl _ (List.mem_singleton.mp z' ▸ lt)
  refine ⟨_, _, _, _, _, _, _, fun _ => true, fun i y => i < ps.length → ∃ p, ps[i]? = some p ∧ Gives p.1 p.2 y, rfl, W, fun i xs hx => ?_, ?_, fun b hb => Nat.lt_of_lt_of_le (low b hb).1 le, quiet.extBut ext statics.2, fun z => Nat.ne_of_lt statics.1 (List.mem_singleton.mp z), fun ref kept => ⟨?_, ?_⟩, ?_⟩
  · obtain ⟨p, ta, tb', _, e⟩ := holds i xs hx.1 hx.2
    exact ⟨_, _, e⟩
  · exact (W X.A room.hd).frame _ _ _ at0 fun b hb u e => ext b u (low b hb).2 e
  · intro A' E' i va vb s₂ m _ _ _ _ _ _
    rw [List.forIn_nil]
    exact wpAny_pure ⟨rfl, _, _, rfl, fun _ _ e => e⟩
  · intro A' E' i va vb s₂ m calm hx _ ns ea eb still
    obtain ⟨p, ta, tb', ep, e⟩ := holds i _ hx.1 hx.2
    have e1 : va = .int p.1 ta := by have z := congrArg (·[0]?) e; simpa using z
    have e2 : vb = .int p.2 tb' := by have z := congrArg (·[1]?) e; simpa using z
    subst e1 e2
    refine wpAny_mono (each s₁ H₁ I₁ ⟨tb, hP, ok⟩ _ code A' E' p.1 p.2 ta tb' s₂ m calm (fun b u hb q => ?_) ns ea eb) (fun y s₃ r => ⟨fun _ => ⟨p, ep, r.1⟩, r.2⟩) fun _ _ q => q
    have q3 := stays b u hb q
    exact still b (List.mem_range.mpr (Heap.lt_size q3)) (fun z => later b u q (List.mem_cons_of_mem _ z)) u (kept b u q3)
  · intro g h₅ tk₅ gs bare above size kept W₅ at₅
    rw [GxR.passing_true, List.length_range] at W₅
    have above' : h₃.objs.size < g := above
    have size' : h₅.objs.size = g + 1 := size
    refine fin ps H₁ g _ want ⟨_, _, _, _, _, ⟨W₅.in4_1, at₅, fun b hb => ?_⟩, fun j v it => ?_, fun s₆ mv => ?_⟩
    · show b < h₅.objs.size
      rw [size']
      rcases List.mem_cons.mp hb with eg | e
      · rw [eg]; exact Nat.lt_succ_self g
      · refine Nat.lt_succ_of_le (Nat.le_trans ?_ (Nat.le_of_lt above'))
        rcases List.mem_cons.mp e with e' | e'
        · rw [e']; exact Nat.le_refl _
        · exact Nat.le_of_lt (List.mem_range.mp e')
    · obtain ⟨i, ei, hg⟩ := it
      have lt : j < ps.length := by
        have z := (List.getElem?_eq_some_iff.mp ei).1
        rwa [List.length_range] at z
      rw [List.getElem?_range lt] at ei
      cases ei
      exact hg lt
    · have all : ∀ b u, b ≠ P → s₁.heap.get? b = some u → s₆.heap.get? b = some u := fun b u hb e => mv.heap b u (later b u e) (kept b u (stays b u hb e))
      have tab₆ := mv.heap P _ (later P _ tabAt) (kept P _ tab₃)
      have J := inv_tab (more := more) (d' := s₆.drawn) (t' := s₆.toks) I₁ hP all tab₆ (AllBare.movedS (I₁.bare.push bare) mv)
      rw [sh_eta s₁ s₆ mv.os] at J
      exact ⟨_, ⟨⟨tb ++ more, upd_same, ok₃⟩, fun b hb => upd_ne hb⟩, J⟩

/-- the sum of g over the pairs -/
def sumP (g : Int → Int → Int) (ps : List (Int × Int)) : Int := (ps.map fun p => g p.1 p.2).sum
theorem preSum_is (g : Int → Int → Int) (ps : List (Int × Int)) (val : Nat → Int) (h : ∀ i p, ps[i]? = some p → val i = g p.1 p.2) : ∀ n, n ≤ ps.length → preSum val n = sumP g (ps.take n)
  | 0, _ => rfl
  | n + 1, hn => by
    have e : ps[n]? = some ps[n] := List.getElem?_eq_getElem hn
    show preSum val n + val n = _
    rw [preSum_is g ps val h n (by omega), h n _ e]
    unfold sumP
    rw [List.take_add_one, e, List.map_append, List.sum_append]
    show _ = _ + (g ps[n].1 ps[n].2 + 0)
    rw [Int.add_zero]
/-- what the reading of sum(..), any(..) over pairs asks: what is captured (Cap), the pairs, the table; then the answer -/
def tOver {α : Type} (K : PySem.W.Frag) (P : Addr) (Cap : L2.St → α → Prop) (ans : α → List (Int × Int) → V) (te : TE) : TE := fun σ H Q => ∃ x : α, Cap σ x ∧ te σ H fun v H₁ => ∃ (a : Addr) (vs : List V) (ps : List (Int × Int)), v = .ref a ∧ (SqL K H₁ a vs ∨ SqT K H₁ a vs) ∧ Prs H₁ vs ps ∧ TabG H₁ P ∧
  ∀ H₂, Tabbed P H₁ H₂ → Q (ans x ps) H₂
/-- how a built-in takes a generator over pairs -/
def Takes2 (X : Cx) (name : String) (Gives : Int → Int → Value → Prop) (ans : List (Int × Int) → V) : Prop :=
  ∀ (pins : List (Addr × Obj)) (σ : L2.St) (P : Addr) (ps : List (Int × Int)) (H₁ : Hp) (gen : Addr) (s₅ : Shared) (Q : VK), Fresh X pins σ H₁ P ps Gives gen s₅ → (∀ H₂, Tabbed P H₁ H₂ → Q (ans ps) H₂) →
    wpAny (model X.prog X.w) X.A (call (.builtin name) [.ref gen]) (EP X pins σ Q) X.xe s₅
theorem pe_over {α : Type} {name : String} {x : Str} {c P : Addr} {elt iter : Expr} {xa xb : Str} {pa pb pt p pos gpos : Pos} {kt : Nat} {sc : Scope} {Cap : L2.St → α → Prop} {Gives : α → Int → Int → Value → Prop} {ans : α → List (Int × Int) → V} {te : TE} {k : Nat} (takes : ∀ y, Takes2 X name (Gives y) (ans y))
    (room : Room k X.A) (glob : Gl X x) (free : X.mg x = none) (bltn : bootBuiltins x = some (.builtin name)) (TB : TabB X.base X.mg c P) (hcode : X.env.code = .ref c) (own : OwnScope X.env sc xa xb) (walked : PE X iter te)
    (each : ∀ pins σ s₁ H₁ y, Inv X pins σ H₁ s₁ → TabG H₁ P → Cap σ y → EltAt X s₁ P sc xa xb elt (Gives y)) (plain : ∀ v, genFold iter X.env v = pure v) (n1 : x ≠ "__name__" := by decide) (n2 : (x == ("__debug__" : Str)) = false := by decide)
    (one : starEach [.GeneratorExp elt [⟨.Tuple [.Name xa pa, .Name xb pb] kt pt, iter, [], 0⟩] sc gpos] X.env = [(false, eval (.GeneratorExp elt [⟨.Tuple [.Name xa pa, .Name xb pb] kt pt, iter, [], 0⟩] sc gpos) X.env)] := by rfl) :
    PE X (.Call (.Name x p) [.GeneratorExp elt [⟨.Tuple [.Name xa pa, .Name xb pb] kt pt, iter, [], 0⟩] sc gpos] [] pos) (tOver X.K P Cap ans te) := by
  constructor
  intro pins s σ H Q I h
  obtain ⟨y, cap, h⟩ := h
  refine wpAny_Call_Name_kw (ld_blt I glob free bltn (callWith_builtin1 ?_ one (by rfl)) n1 n2)
  rw [one]
  refine Calls.spliced_cons (gen_made (Want := fun ps H₁ => ∀ H₂, Tabbed P H₁ H₂ → Q (ans y ps) H₂) (Gives := Gives y) room TB hcode own walked plain I (fun s₁ H₁ J g => each pins σ s₁ H₁ y J g cap) h fun ps H₁ gen s₅ want fresh => Calls.spliced_nil ?_)
  exact takes y pins σ P ps H₁ gen s₅ Q fresh want
theorem takes_sum (g : Int → Int → Int) : Takes2 X "sum" (fun a b y => ∃ t, y = .int (g a b) t) (fun ps => .int (sumP g ps)) := by
  intro pins σ P ps H₁ gen s₅ Q fresh want
  obtain ⟨foot, writes, Gens, Item, At, ⟨W, a0, low⟩, items, behind⟩ := fresh
  let val : Nat → Int := fun i => (ps[i]?.map fun p => g p.1 p.2).getD 0
  have hv : ∀ i p, ps[i]? = some p → val i = g p.1 p.2 := fun i p e => by show (ps[i]?.map _).getD 0 = _; rw [e]; rfl
  refine call_sum_walkAnyS (W.self 0 _ _ _ a0 ⟨gen, foot, writes, Gens, ps.length, Item, At, val, rfl, W, a0, low, fun i v it => ?_, fun s₆ t mv => ?_⟩)
  · obtain ⟨p, e, t, ev⟩ := items i v it
    exact ⟨t, by rw [hv i p e]; exact ev⟩
  · obtain ⟨H₂, tabbed, J⟩ := behind s₆ mv
    refine ⟨.int (preSum val ps.length), H₂, J, ⟨t, rfl⟩, ?_⟩
    rw [preSum_is g ps val hv ps.length (Nat.le_refl _), List.take_length]
    exact want H₂ tabbed
def anyP (g : Int → Int → Bool) (ps : List (Int × Int)) : Bool := ps.any fun p => g p.1 p.2
theorem any_is {α : Type} (ps : List α) (f : α → Bool) (tr : Nat → Bool) (h : ∀ i p, ps[i]? = some p → tr i = f p) : (List.range ps.length).any tr = ps.any f := by
  rw [Bool.eq_iff_iff, List.any_eq_true (l := List.range _), List.any_eq_true]
  constructor
  · rintro ⟨i, hi, e⟩
    have lt := List.mem_range.mp hi
    exact ⟨ps[i], List.getElem_mem lt, by rw [← h i _ (List.getElem?_eq_getElem lt)]; exact e⟩
  · rintro ⟨p, hp, e⟩
    obtain ⟨i, lt, rfl⟩ := List.getElem_of_mem hp
    exact ⟨i, List.mem_range.mpr lt, by rw [h i _ (List.getElem?_eq_getElem lt)]; exact e⟩
theorem takes_any (g : Int → Int → Bool) : Takes2 X "any" (fun a b y => y = .bool (g a b)) (fun ps => .bl (anyP g ps)) := by
  intro pins σ P ps H₁ gen s₅ Q fresh want
  obtain ⟨foot, writes, Gens, Item, At, ⟨W, a0, low⟩, items, behind⟩ := fresh
  let tr : Nat → Bool := fun i => (ps[i]?.map fun p => g p.1 p.2).getD false
  have ht : ∀ i p, ps[i]? = some p → tr i = g p.1 p.2 := fun i p e => by show (ps[i]?.map _).getD false = _; rw [e]; rfl
  refine call_any_walkS (W.self 0 _ _ _ a0 ⟨gen, foot, writes, Gens, ps.length, Item, At, tr, rfl, W, a0, fun i v s' Q' E' it q => ?_, fun s₆ mv => ?_⟩)
  · obtain ⟨p, e, rfl⟩ := items i v it
    rw [ht i p e] at q
    exact wpAny_truthy_bool q
  · obtain ⟨H₂, tabbed, J⟩ := behind s₆ mv
    refine ⟨.bl _, H₂, J, rfl, ?_⟩
    rw [any_is ps (fun p => g p.1 p.2) tr ht]
    exact want H₂ tabbed
/-- a whole number that the expression captures, as its cell has it -/
theorem captured {i : Nat} {y : Str} {n : Int} {P : Addr} (I : Inv X pins σ H s) (hN : X.N[i]? = some y) (hk : X.env.scope.names.lookup y = some .cell) (hv : σ[i]? = some (some (.int n))) (g : TabG H P) :
    ∃ c t, X.env.cells.lookup y = some c ∧ s.heap.IsCell c (some (.int n t)) ∧ c ≠ P := by
  obtain ⟨tb, hP, _⟩ := g
  obtain ⟨m, _, look⟩ := I.loc
  obtain ⟨u, ⟨t, rfl⟩, l⟩ := look i y _ hN hv (.inr (.inl hk))
  rcases l with ⟨z, _⟩ | ⟨_, c, e, o, ho, hd⟩
  · rw [show X.env.kindOf y = some .cell from hk] at z
    cases z
  · refine ⟨c, t, e, ⟨o, ho, hd⟩, fun z => ?_⟩
    rw [z, I.hok P _ hP] at ho
    rw [← Option.some.inj ho] at hd
    cases hd
/-- the names of the module and the built-in ones, where the expression runs -/
theorem names_in {P : Addr} {s₂ : Shared} (I : Inv X pins σ H s) (g : TabG H P) (gP : mainGlobals ≠ P) (kept : ∀ x o, x ≠ P → s.heap.get? x = some o → s₂.heap.get? x = some o) :
    s₂.heap.Ns mainGlobals X.mg ∧ ∃ mb, s₂.heap.Ns builtinsNs mb ∧ ∀ x : Str, x ≠ "__name__" → mb x = bootBuiltins x := by
  obtain ⟨tb, hP, _⟩ := g
  obtain ⟨mb, b1, b2⟩ := I.mod.blt
  have at_ : ∀ b m, b ≠ P → s.heap.Ns b m → s₂.heap.Ns b m := fun b m hb ⟨o, es, ep, ho, r⟩ => ⟨o, es, ep, kept b o hb ho, r⟩
  refine ⟨at_ _ _ gP (I.mod.glob.keeps I.bk), mb, at_ _ _ (fun z => ?_) (b1.keeps I.bk), b2⟩
  obtain ⟨o, es, ep, ho, hd, _⟩ := b1.keeps I.bk
  rw [z, I.hok P _ hP] at ho
  rw [← Option.some.inj ho] at hd
  cases hd
end
end GP

namespace TK
open PySem PySem.Spec PyProof.Rows L2 GP
def topS (i : Nat) : Stmt := PySem.Challenge.pw_tinrecall_k40_fewest_samples_by_trying.main.body.getD i (.Pass ⟨0, 0, 0, 0⟩)

/-- the draws' state: its dict at d, its cells at c -/
structure StAt (H : Hp) (d c : Addr) (t : Int) : Prop where
  dict : H d = some (.dK [(.inr "cells", .ref c), (.inr "turn", .int t)])
  cells : ∃ cs : List Int, H c = some (.lst (cs.map V.int)) ∧ cs ≠ [] ∧ cs.length ≤ 63
  pos : 0 ≤ t
theorem StAt.ne {H : Hp} {d c : Addr} {t : Int} (h : StAt H d c t) : d ≠ c := by
  obtain ⟨cs, hc, _⟩ := h.cells
  exact ne_of h.dict hc (by intro z; cases z)
/-- all but the state is as it was -/
def Kp (d c : Addr) (H H' : Hp) : Prop := ∀ b o, b ≠ d → b ≠ c → H b = some o → H' b = some o
theorem Kp.refl (d c : Addr) (H : Hp) : Kp d c H H := fun _ _ _ _ h => h
theorem Kp.trans {d c : Addr} {H H1 H2 : Hp} (a : Kp d c H H1) (b : Kp d c H1 H2) : Kp d c H H2 := fun x o h1 h2 h => b x o h1 h2 (a x o h1 h2 h)

theorem ixN_of {n j : Nat} (h : j < n) : ixN n (j : Int) = some j := by
  unfold ixN
  rw [if_pos (Int.natCast_nonneg j), if_pos (by omega), Int.toNat_natCast]
def spTake : Sp := fun vs H Q _ => ∃ (d c : Addr) (t m : Int), vs = [.ref d, .int m] ∧ StAt H d c t ∧ t < 2 ^ 60 ∧ 0 < m ∧ m.natAbs < 2 ^ 250 ∧
  ∀ r H', 0 ≤ r → r < m → StAt H' d c (t + 1) → Kp d c H H' → Q (.int r) H'

abbrev sTake : Stmt := topS 9
theorem scTake : FnScope ["_law_state", "_law_many", "_law_turn", "_law_place", "_law_cell", "_law_digit", "_law_mixed"] ["_law_state", "_law_many"] (defScope sTake) := ⟨rfl, rfl, rfl, by decide +kernel, rfl, by decide +kernel, by decide +kernel⟩
section
variable {K : PySem.W.Frag} {mg : Str → Option Value} {P : Program} {w : World} {base : Heap}
theorem ok_take {f : Addr} {fd : FuncData} {k : Nat} (F : Fun K "_law_take" "_law_take" sTake f fd) (ml : mg "len" = none) (md : mg "divmod" = none) : FnOk P w K mg base CX0 (k + 1) f fd ["_law_state", "_law_many"] spTake := by
  refine F.ok scTake (fun vs H Q E h => ?_) (fun cdv A outer s H vs Q E hr h => ?_)
  · obtain ⟨d, c, t, m, rfl, _⟩ := h
    rfl
  · obtain ⟨d, c, t, m, rfl, hS, ht, hm, hm2, q⟩ := h
    refine ⟨_, pss_cons (ps_set (i := 2) scTake.nd rfl (.inl rfl) (pe_op op_add (pe_dget (hu_of hr) (pv 0) pe_str (fun _ _ => rfl)) pe_int))
      (pss_cons (ps_dput (hu_of hr) (pv 0) pe_str (pv 2) rfl)
      (pss_cons (ps_set (i := 3) scTake.nd rfl (.inl rfl) (pe_op op_mod (pv 2) (pe_callB call_len_seq (by rfl) ml PySem.boot_len (pa_cons (pe_dget (hu_of hr) (pv 0) pe_str (fun _ _ => rfl)) pa_nil))))
      (pss_cons (ps_set (i := 4) scTake.nd rfl (.inl rfl) (pe_ix ix_list (pe_dget (hu_of hr) (pv 0) pe_str (fun _ _ => rfl)) (pv 3) (fun _ _ => rfl)))
      (pss_cons (ps_if (pt_cmpR op_ge (pv 4) (pe_op op_pow pe_int pe_int) (nomark _))
        (pss_cons (ps_asg (pe_callB call_divmodW (by rfl) md (by decide +kernel) (pa_cons (pv 4) (pa_cons (pv 1) pa_nil)))
            (pg_tup rfl (pgs_cons (pg_sub (pe_dget (hu_of hr) (pv 0) pe_str (fun _ _ => rfl)) (pv 3) set_list) (pgs_cons (pg_name (i := 5) scTake.nd rfl (.inl rfl)) pgs_nil))))
          (pss_one (ps_ret (pv 5)))) pss_nil)
      (pss_cons (ps_set (i := 6) scTake.nd rfl (.inl rfl) (pe_op op_mod (pe_op op_mul (pe_op op_add (pe_op op_add (pe_op op_mod (pv 4) pe_int) (pe_op op_mul (pe_op op_mul (pv 2) (pv 2)) pe_int)) pe_int) pe_int) pe_int))
      (pss_cons (ps_set (i := 6) scTake.nd rfl (.inl rfl) (pe_op op_mod (pe_op op_mul (pv 6) (pv 6)) pe_int))
      (pss_one (ps_ret (pe_op op_mod (pe_op op_fdiv (pe_op op_mod (pe_op op_mul (pe_op op_add (pv 6) (pe_op op_mul (pv 2) pe_int)) pe_int) pe_int) pe_int) (pv 1)))))))))), ?_⟩
    obtain ⟨hd, ⟨cs, hc, hne, hlen⟩, hpos⟩ := hS
    have ndc : d ≠ c := ne_of hd hc (by intro z; cases z)
    -- turn = state['turn'] + 1
    refine ⟨.ref d, rfl, d, .int t, rfl, DGet.k (k := Sum.inr "turn") hd, t, 1, rfl, rfl, ?_⟩
    -- state['turn'] = turn
    refine ⟨_, rfl, .ref d, rfl, d, _, rfl, DPut.k (k := Sum.inr "turn") hd (by show 2 < sizeLine; decide), ?_⟩
    have hput : putK [((.inr "cells" : Key), V.ref c), (.inr "turn", .int t)] (.inr "turn") (.int (t + 1)) = [(.inr "cells", .ref c), (.inr "turn", .int (t + 1))] := rfl
    rw [show (.int (t + 1) : V) = V.int (t + 1) from rfl] at *
    rw [hput]
    generalize hH1 : upd H d (.dK [((.inr "cells" : Key), V.ref c), (.inr "turn", .int (t + 1))]) = H1
    have hd1 : H1 d = some (.dK [(.inr "cells", .ref c), (.inr "turn", .int (t + 1))]) := by rw [← hH1]; exact upd_same
    have hc1 : H1 c = some (.lst (cs.map V.int)) := by rw [← hH1, upd_ne ndc.symm]; exact hc
    have k1 : Kp d c H H1 := fun b o h1 h2 e => by rw [← hH1, upd_ne h1]; exact e
    have hlp : 0 < cs.length := List.length_pos_iff.mpr hne
    -- place = turn % len(state['cells'])
    refine ⟨_, rfl, .ref d, rfl, d, .ref c, rfl, DGet.k (k := Sum.inr "cells") hd1, c, _, rfl, .inl (SqL.of hc1), _, _, rfl, rfl, (by show (0 : Int) < ((cs.map V.int).length : Int); rw [List.length_map]; omega), ?_⟩
    dsimp only
    rw [List.length_map]
    have hj0 : 0 ≤ (t + 1) % (cs.length : Int) := Int.emod_nonneg _ (by omega)
    have hj1 : (t + 1) % (cs.length : Int) < cs.length := Int.emod_lt_of_pos _ (by omega)
    obtain ⟨j, hj⟩ := Int.eq_ofNat_of_zero_le hj0
    have hjl : j < cs.length := by omega
    rw [hj]
    have gj : (cs.map V.int)[j]? = some (.int cs[j]) := by rw [List.getElem?_map, List.getElem?_eq_getElem hjl]; rfl
    -- cell = state['cells'][place]
    refine ⟨.ref d, rfl, d, .ref c, rfl, DGet.k (k := Sum.inr "cells") hd1, _, rfl, c, _, _, .int cs[j], rfl, rfl, SqL.of hc1, atI_nat gj, ?_⟩
    generalize cs[j] = x
    -- if cell >= 10 ** 18
    refine ⟨_, rfl, 10, 18, rfl, rfl, ⟨by decide, by decide, by decide⟩, _, _, rfl, rfl, _, rfl, ite2 (fun e => ?_) (fun e => ?_)⟩
    · have hdp : CDivP x m := ⟨hm, PyProof.noPylong_of_log2 (Nat.lt_trans (PySem.Flt.log2_lt_of (by decide) hm2) (by decide))⟩
      refine ⟨_, rfl, _, rfl, x, m, rfl, hdp, fun p hp => ?_⟩
      have npd : d ≠ p := ne_of_none hd1 hp
      have npc : c ≠ p := ne_of_none hc1 hp
      have hd2 : upd H1 p (.tup [.int (x / m), .int (x % m)]) d = some (.dK [(.inr "cells", .ref c), (.inr "turn", .int (t + 1))]) := by rw [upd_ne npd]; exact hd1
      have hc2 : upd H1 p (.tup [.int (x / m), .int (x % m)]) c = some (.lst (cs.map V.int)) := by rw [upd_ne npc]; exact hc1
      refine ⟨p, _, rfl, .inl (.inl upd_same), rfl, _, _, rfl, .ref d, rfl, d, .ref c, rfl, DGet.k (k := Sum.inr "cells") hd2, _, rfl, c, _, _, j, rfl, rfl, hc2, ixN_of (by rw [List.length_map]; exact hjl), _, _, rfl, rfl, ?_⟩
      refine ⟨_, rfl, ?_⟩
      refine q _ _ (Int.emod_nonneg _ (by omega)) (Int.emod_lt_of_pos _ hm) ⟨?_, ⟨cs.set j (x / m), ?_, ?_, ?_⟩, by omega⟩ ?_
      · rw [upd_ne ndc]; exact hd2
      · rw [upd_same, List.map_set]
      · intro z
        have z2 : (cs.set j (x / m)).length = 0 := by rw [z]; rfl
        rw [List.length_set] at z2
        omega
      · rw [List.length_set]; exact hlen
      · intro b o h1 h2 e
        rw [upd_ne h2, upd_ne (ne_of_none (k1 b o h1 h2 e) hp)]
        exact k1 b o h1 h2 e
    · have t1 : t + 1 < 2 ^ 61 := by omega
      -- mixed
      refine ⟨_, rfl, _, _, rfl, rfl, (show (0 : Int) < 2147483629 by decide), _, rfl, _, rfl, t + 1, t + 1, rfl, rfl, .inl ⟨by omega, by omega⟩, _, _, rfl, rfl, .inr ⟨by decide, by decide⟩, _, _, rfl, rfl, _, _, rfl, rfl, _, _, rfl, rfl, .inr ⟨by decide, by decide⟩, _, 2147483647, rfl, rfl, (show (0 : Int) < 2147483647 by decide), ?_⟩
      dsimp only
      generalize hy : ((x % 2147483629 + (t + 1) * (t + 1) * 7919 + 11) * 48271) = y
      have y0 : 0 ≤ y % 2147483647 := Int.emod_nonneg _ (by decide)
      have y1 : y % 2147483647 < 2147483647 := Int.emod_lt_of_pos _ (by decide)
      refine ⟨_, rfl, _, rfl, y % 2147483647, y % 2147483647, rfl, rfl, .inl ⟨by omega, by omega⟩, _, 2147483587, rfl, rfl, (show (0 : Int) < 2147483587 by decide), ?_⟩
      refine ⟨_, rfl, _, rfl, t + 1, 104729, rfl, rfl, .inr ⟨by decide, by decide⟩, _, _, rfl, rfl, _, _, rfl, rfl, .inr ⟨by decide, by decide⟩, _, 2147483629, rfl, rfl, (show (0 : Int) < 2147483629 by decide), _, 64, rfl, rfl, ⟨by decide, by decide⟩, _, rfl, _, m, rfl, rfl, hm, ?_⟩
      exact q _ _ (Int.emod_nonneg _ (by omega)) (Int.emod_lt_of_pos _ hm) ⟨hd1, ⟨cs, hc1, hne, hlen⟩, by omega⟩ k1
end

abbrev sBegin : Stmt := topS 8
theorem scBegin : FnScope ["_law_script", "_law_cells"] ["_law_script"] (defScope sBegin) := ⟨rfl, rfl, rfl, by decide +kernel, rfl, by decide +kernel, by decide +kernel⟩
theorem same_upd {H : Hp} {p : Addr} {o : HO} (h : H p = none) : Same H (upd H p o) := fun b x e => by
  rw [upd_ne (ne_of_none e h)]
  exact e
theorem cut_front (xs : List V) (m : Nat) : cutV xs none (some (m : Int)) = xs.take m := by
  unfold cutV
  rw [HT.sIx_none, HT.sIx_nat]
  show List.take (min m xs.length - 0) (xs.drop 0) = xs.take m
  rw [Nat.sub_zero, List.drop_zero]
  by_cases h : m ≤ xs.length
  · rw [Nat.min_eq_left h]
  · rw [Nat.min_eq_right (by omega), List.take_length, List.take_of_length_le (by omega)]
theorem dp_ints {K : PySem.W.Frag} {H : Hp} : ∀ ns : List Int, DpAll K H (ns.map V.int) (ns.map PyData.int)
  | [] => .nil
  | n :: r => .cons (.int n) (dp_ints r)
theorem lay_ints : ∀ ns : List Int, PyData.canLayAll0 (ns.map PyData.int) = true
  | [] => by simp only [List.map_nil, PyData.canLayAll0]
  | n :: r => by
    rw [List.map_cons, PyData.canLayAll0, lay_ints r]
    simp [PyData.canLay0]
theorem depth_ints : ∀ ns : List Int, PyData.depthAll (ns.map PyData.int) = 0
  | [] => by simp only [List.map_nil, PyData.depthAll]
  | n :: r => by
    rw [List.map_cons, PyData.depthAll, depth_ints r]
    simp [PyData.depth]
theorem shaped_ints (ns : List Int) : SeqAt.shaped (PyData.list (ns.map PyData.int)) = true := by
  unfold SeqAt.shaped
  rw [PyData.canLay0, lay_ints, PyData.depth, depth_ints]
  rfl
theorem eqv_nil (n : Int) (r : List Int) : PyData.eqv (PyData.list ((n :: r).map PyData.int)) (PyData.list []) = false := by
  simp [PyData.eqv, PyData.eqvAll]
theorem eqv_nil0 : PyData.eqv (PyData.list (([] : List Int).map PyData.int)) (PyData.list []) = true := by
  simp [PyData.eqv, PyData.eqvAll]
def spBegin (K : PySem.W.Frag) : Sp := fun vs H Q _ => ∃ (a : Addr) (ns : List Int), vs = [.ref a] ∧ SqL K H a (ns.map V.int) ∧ ns.length ≤ 63 ∧
  ∀ d c H', Same H H' → H d = none → H c = none → StAt H' d c 0 → Q (.ref d) H'
section
variable {K : PySem.W.Frag} {mg : Str → Option Value} {P : Program} {w : World} {base : Heap}
theorem ok_begin {f : Addr} {fd : FuncData} {k : Nat} (F : Fun K "_law_begin" "_law_begin" sBegin f fd) (ml : mg "list" = none) : FnOk P w K mg base CX0 (k + 1) f fd ["_law_script"] (spBegin K) := by
  refine F.ok scBegin (fun vs H Q E h => ?_) (fun cdv A outer s H vs Q E hr h => ?_)
  · obtain ⟨a, ns, rfl, _⟩ := h
    rfl
  · obtain ⟨a, ns, rfl, hS, hlen, q⟩ := h
    refine ⟨_, pss_cons (ps_set (i := 1) scBegin.nd rfl (.inl rfl) (pe_callTy call_list_of (by rfl) ml (by decide +kernel) (pa_cons (pe_slice sl_list (pv 0) po_none (po_some pe_int)) pa_nil)))
      (pss_cons (ps_if (pt_cmpR (op_eqD hr.units) (pv 1) (pe_lst pa_nil) (nomark _)) (pss_one (ps_set (i := 1) scBegin.nd rfl (.inl rfl) (pe_lst (pa_cons pe_int pa_nil)))) pss_nil)
      (pss_one (ps_ret (pe_disp (pps_cons pe_str (pv 1) (pps_cons pe_str pe_int pps_nil)) (by rfl) (by rfl) (fun z => by cases z) (by decide))))), ?_⟩
    -- the end: a dict of what stands at the cells' place
    have fin : ∀ (H1 : Hp) (c : Addr) (cs : List Int) (y : Option V), Same H H1 → H c = none → H1 c = some (.lst (cs.map V.int)) → cs ≠ [] → cs.length ≤ 63 →
        (tRet (tDisp [(tC (.str "cells"), tVar 1), (tC (.str "turn"), tC (.int 0))])) { nx := fun _ H' => Q .non H', rt := Q } [some (.ref a), some (.ref c)] H1 := by
      intro H1 c cs y s1 nc ec hne hl
      refine fun d nd => ⟨_, rfl, upd_same, [(.inr "cells", .ref c), (.inr "turn", .int 0)], rfl, (by show 2 ≤ 15; decide), ?_⟩
      have ndc : c ≠ d := ne_of_none ec nd
      refine q d c _ (fun b o e => ?_) (s1.free nd) nc ⟨?_, ⟨cs, ?_, hne, hl⟩, by decide⟩
      · have nb : b ≠ d := ne_of_none (s1 b o e) nd
        rw [upd_ne nb, upd_ne nb]
        exact s1 b o e
      · exact upd_same
      · rw [upd_ne ndc, upd_ne ndc]
        exact ec
    refine ⟨.ref a, rfl, 63, rfl, a, ns.map V.int, rfl, hS, fun p np => ?_⟩
    have s1 : Same H (upd H p (.lst (cutV (ns.map V.int) none (some 63)))) := same_upd np
    refine ⟨p, _, rfl, .inl (SqL.of upd_same), fun l nl => ?_⟩
    have s2 := s1.trans (same_upd (o := .lst (cutV (ns.map V.int) none (some 63))) nl)
    have ecut : cutV (ns.map V.int) none (some 63) = ns.map V.int := by
      have e := cut_front (ns.map V.int) 63
      have e2 : cutV (ns.map V.int) none (some 63) = (ns.map V.int).take 63 := e
      rw [e2, List.take_of_length_le (by rw [List.length_map]; exact hlen)]
    have el : upd (upd H p (.lst (cutV (ns.map V.int) none (some 63)))) l (.lst (cutV (ns.map V.int) none (some 63))) l = some (.lst (ns.map V.int)) := by
      rw [upd_same, ecut]
    revert s2 el
    generalize upd (upd H p (.lst (cutV (ns.map V.int) none (some 63)))) l (.lst (cutV (ns.map V.int) none (some 63))) = H2
    intro s2 el
    have nlH : H l = none := s1.free nl
    -- if cells == []
    refine ⟨.ref l, rfl, Nat.zero_le _, fun z nz => ?_⟩
    have s3 := s2.trans (same_upd (o := .lst []) nz)
    have nlz : l ≠ z := ne_of_none el nz
    have el3 : upd H2 z (.lst []) l = some (.lst (ns.map V.int)) := by rw [upd_ne nlz]; exact el
    refine ⟨.list (ns.map PyData.int), .list [], .lst (SqL.of el3) (dp_ints ns), .lst (SqL.of upd_same) .nil, shaped_ints ns, shaped_ints [], ?_⟩
    cases ns with
    | nil =>
      refine ⟨true, by rw [eqv_nil0], iteT ?_⟩
      refine ⟨(by show 1 ≤ sizeLine; decide), fun c nc => ?_⟩
      exact fin _ c [_] none (s3.trans (same_upd nc)) (s3.free nc) upd_same (by simp) (by decide)
    | cons n r =>
      refine ⟨false, by rw [eqv_nil], iteF ?_⟩
      exact fin _ l (n :: r) none s3 nlH el3 (by simp) hlen
end

/-- a def of the text that keeps a promise, as its callers see it -/
def Cal (P : Program) (w : World) (K : PySem.W.Frag) (mg : Str → Option Value) (base : Heap) (k : Nat) (x : Str) (ps : List Str) (sp : Sp) : Prop :=
  ∃ f fd, FnOk P w K mg base CX0 k f fd ps sp ∧ mg x = some (.ref f) ∧ PySem.W.keepIn K (.ref f) = true ∧ Binds K fd ps []
theorem pe_own {X : Cx} {k : Nat} {x : Str} {ps : List Str} {sp : Sp} {e : Expr} {es : List Expr} {t : TA} {p pos : Pos} (C : Cal X.prog X.w X.K X.mg X.base k x ps sp) (hr : Room k X.A) (hg : Gl X x) (ha : PA X (e :: es) t)
    (dbg : (x == ("__debug__" : Str)) = false := by decide) (one : starEach (e :: es) X.env = (false, eval e X.env) :: starEach es X.env := by rfl) (star : (backTo pos (starEach es X.env)).any (·.1) = false := by rfl) :
    PE X (.Call (.Name x p) (e :: es) [] pos) (tCall sp [] E0 t) := by
  obtain ⟨f, fd, F, hm, hk, hb⟩ := C
  exact pe_call F hr hg hm hk hb .nil pass0 ha dbg one star
theorem StAt.same {H H' : Hp} {d c : Addr} {t : Int} (h : StAt H d c t) (s : Same H H') : StAt H' d c t :=
  ⟨s _ _ h.dict, let ⟨cs, e, r⟩ := h.cells; ⟨cs, s _ _ e, r⟩, h.pos⟩
theorem Kp.same {H H' : Hp} (d c : Addr) (s : Same H H') : Kp d c H H' := fun b o _ _ e => s b o e
/-- what is made behind the state stays -/
theorem Kp.at {H H' : Hp} {d c a : Addr} {t : Int} {o : HO} (k : Kp d c H H') (S : StAt H d c t) (e : H a = some o) (h1 : ∀ kvs, o ≠ .dK kvs) (h2 : ∀ ns : List Int, o ≠ .lst (ns.map V.int)) : H' a = some o := by
  obtain ⟨cs, ec, _⟩ := S.cells
  refine k a o (fun z => ?_) (fun z => ?_) e
  · rw [z, S.dict] at e
    exact h1 _ (Option.some.inj e).symm
  · rw [z, ec] at e
    exact h2 _ (Option.some.inj e).symm
theorem StAt.upd {H : Hp} {d c l : Addr} {t : Int} {o : HO} (S : StAt H d c t) (h1 : l ≠ d) (h2 : l ≠ c) : StAt (L2.upd H l o) d c t := by
  refine ⟨by rw [upd_ne h1.symm]; exact S.dict, ?_, S.pos⟩
  obtain ⟨cs, ec, r⟩ := S.cells
  exact ⟨cs, by rw [upd_ne h2.symm]; exact ec, r⟩

theorem _root_.GP.Prs.same {H H' : Hp} {vs : List V} {ps : List (Int × Int)} (h : Prs H vs ps) (s : Same H H') : Prs H' vs ps :=
  ⟨h.1, fun i p e => let ⟨a, e1, e2⟩ := h.2 i p e; ⟨a, e1, s _ _ e2⟩⟩
theorem _root_.GP.Prs.kp {H H' : Hp} {d c : Addr} {t : Int} {vs : List V} {ps : List (Int × Int)} (h : Prs H vs ps) (S : StAt H d c t) (k : Kp d c H H') : Prs H' vs ps :=
  ⟨h.1, fun i p e => let ⟨a, e1, e2⟩ := h.2 i p e; ⟨a, e1, k.at S e2 (fun _ z => nomatch z) (fun _ z => nomatch z)⟩⟩
theorem _root_.GP.Prs.upd_lst {H : Hp} {l : Addr} {xs : List V} {o : HO} {vs : List V} {ps : List (Int × Int)} (h : Prs H vs ps) (hl : H l = some (.lst xs)) : Prs (upd H l o) vs ps :=
  ⟨h.1, fun i p e => let ⟨a, e1, e2⟩ := h.2 i p e; ⟨a, e1, by rw [upd_ne (ne_of e2 hl (fun z => nomatch z))]; exact e2⟩⟩
theorem _root_.GP.Prs.nil {H : Hp} : Prs H [] [] := ⟨rfl, fun i p e => by simp at e⟩
theorem _root_.GP.Prs.snoc {H : Hp} {a : Addr} {x y : Int} {vs : List V} {ps : List (Int × Int)} (h : Prs H vs ps) (e : H a = some (.tup [.int x, .int y])) : Prs H (vs ++ [.ref a]) (ps ++ [(x, y)]) := by
  refine ⟨by simp [h.1], fun i p ep => ?_⟩
  by_cases hi : i < ps.length
  · rw [List.getElem?_append_left hi] at ep
    obtain ⟨b, e1, e2⟩ := h.2 i p ep
    exact ⟨b, by rw [List.getElem?_append_left (by rw [h.1]; exact hi)]; exact e1, e2⟩
  · rw [List.getElem?_append_right (by omega)] at ep
    have hz : i - ps.length = 0 := by
      cases hq : i - ps.length with
      | zero => rfl
      | succ n => rw [hq] at ep; simp at ep
    rw [hz] at ep
    have ep' : (x, y) = p := by simpa using ep
    subst ep'
    refine ⟨a, ?_, e⟩
    rw [List.getElem?_append_right (by rw [h.1]; omega), h.1, hz]
    rfl
/-- rising stretches with gaps, from lo on -/
def Ris : Int → List (Int × Int) → Prop
  | _, [] => True
  | lo, p :: r => lo ≤ p.1 ∧ p.1 ≤ p.2 ∧ Ris (p.2 + 2) r
theorem Ris.snoc : ∀ {lo : Int} {ps : List (Int × Int)} {a b : Int}, Ris lo ps → lo ≤ a → (∀ p ∈ ps, p.2 + 2 ≤ a) → a ≤ b → Ris lo (ps ++ [(a, b)])
  | lo, [], a, b, _, h1, _, h3 => ⟨h1, h3, True.intro⟩
  | lo, p :: r, a, b, h, h1, h2, h3 => ⟨h.1, h.2.1, Ris.snoc h.2.2 (h2 p (List.mem_cons_self ..)) (fun q hq => h2 q (List.mem_cons_of_mem _ hq)) h3⟩
theorem pick2 {x y r : Int} (Pv : Int → Prop) (h0 : 0 ≤ r) (h1 : r < 2) (hx : Pv x) (hy : Pv y) : ∃ v, Pv v ∧ atI [V.int x, V.int y] r = some (.int v) := by
  have : r = 0 ∨ r = 1 := by omega
  rcases this with rfl | rfl
  · exact ⟨x, hx, rfl⟩
  · exact ⟨y, hy, rfl⟩
theorem pick3 {x y z r : Int} (Pv : Int → Prop) (h0 : 0 ≤ r) (h1 : r < 3) (hx : Pv x) (hy : Pv y) (hz : Pv z) : ∃ v, Pv v ∧ atI [V.int x, V.int y, V.int z] r = some (.int v) := by
  have : r = 0 ∨ r = 1 ∨ r = 2 := by omega
  rcases this with rfl | rfl | rfl
  · exact ⟨x, hx, rfl⟩
  · exact ⟨y, hy, rfl⟩
  · exact ⟨z, hz, rfl⟩
/-- a new object stands through the state's change -/
theorem Kp.new {H H' : Hp} {d c l : Addr} {t : Int} {o : HO} (k : Kp d c (upd H l o) H') (S : StAt H d c t) (n : H l = none) : H' l = some o := by
  obtain ⟨cs, ec, _⟩ := S.cells
  exact k l o (ne_of_none S.dict n).symm (ne_of_none ec n).symm upd_same
theorem drop_at {α : Type} {l : List α} {i : Nat} {x : α} (h : l[i]? = some x) : l.drop i = x :: l.drop (i + 1) := by
  obtain ⟨lt, e⟩ := List.getElem?_eq_some_iff.mp h
  rw [← e]
  exact List.drop_eq_getElem_cons lt
theorem prs_at {H : Hp} {vs : List V} {ps : List (Int × Int)} {i : Nat} {x : V} (h : Prs H vs ps) (e : vs[i]? = some x) : ∃ (p : Int × Int) (a : Addr), ps[i]? = some p ∧ x = .ref a ∧ H a = some (.tup [.int p.1, .int p.2]) := by
  obtain ⟨hi, _⟩ := List.getElem?_eq_some_iff.mp e
  have hi2 : i < ps.length := by rw [← h.1]; exact hi
  obtain ⟨a, e1, e2⟩ := h.2 i ps[i] (List.getElem?_eq_getElem hi2)
  rw [e] at e1
  exact ⟨ps[i], a, List.getElem?_eq_getElem hi2, Option.some.inj e1, e2⟩

theorem sumP_append (g : Int → Int → Int) (ps qs : List (Int × Int)) : sumP g (ps ++ qs) = sumP g ps + sumP g qs := by
  unfold sumP
  rw [List.map_append, List.sum_append]
def inB (n a b : Int) : Bool := decide (a ≤ n) && decide (n ≤ b)
theorem Ris.le : ∀ {lo : Int} {ps : List (Int × Int)}, Ris lo ps → ∀ p ∈ ps, lo ≤ p.1 ∧ p.1 ≤ p.2
  | _, [], _, _, hp => nomatch hp
  | lo, q :: r, h, p, hp => by
    rcases List.mem_cons.mp hp with e | e'
    · rw [e]; exact ⟨h.1, h.2.1⟩
    · have := Ris.le h.2.2 p e'
      have := h.2.1
      have := h.1
      omega

/-! ### walks over a list or a tuple -/
def Sq (K : PySem.W.Frag) (H : Hp) (a : Addr) (xs : List V) : Prop := SqL K H a xs ∨ SqT K H a xs
def iSeq (K : PySem.W.Frag) (tl : TE) : TI := fun σ H R => tl σ H fun x H1 => ∃ a, x = .ref a ∧ (((∃ xs, SqL K H1 a xs) ∧ R (Itl K a) H1) ∨ ((∃ xs, SqT K H1 a xs) ∧ R (Itt K a) H1))
/-- the iterator that was just laid is no one's -/
theorem lone {X : Cx} {pins : List (Addr × Obj)} {σ : L2.St} {H : Hp} {s : Shared} (I : Inv X pins σ H s) : ∀ b ∈ [s.heap.objs.size], FpOk X pins H b := fun b hb => by
  rw [List.mem_singleton.mp hb]
  exact I.fpOk (H' := H) (Nat.le_refl _) (I.hok.fresh (Nat.le_refl _))
theorem pi_seq {X : Cx} {tg l : Expr} {tl : TE} (walked : PE X l tl) : PI X tg l (iSeq X.K tl) := by
  constructor
  intro pins s σ H R I h
  refine thn (walked.run pins s σ H _ I h) fun u s1 had => ?_
  obtain ⟨_, H1, J, rel, a, rfl, had⟩ := had
  cases rel
  have laid : ∀ o, Inv X pins σ H1 { s1 with heap := s1.heap.push o } := fun o => J.kept (t' := s1.toks) fun _ _ e => Heap.get?_push_of_some _ e
  rcases had with ⟨⟨xs, hq⟩, q⟩ | ⟨⟨xs, hq⟩, q⟩
  · obtain ⟨its, _, isL, _⟩ := J.list hq
    exact wpAny_pyIter_list isL.isList ⟨_, _, _, _, H1, rfl, laid _, turn_list a _, ⟨_, Heap.get?_push_size _ rfl, rfl, rfl⟩, lone J, q⟩
  · obtain ⟨its, _, isT, _⟩ := J.tuple hq
    exact wpAny_pyIter_tuple (items := its.toArray) isT ⟨_, _, _, _, H1, rfl, laid _, turn_tuple a _, ⟨_, Heap.get?_push_size _ rfl, rfl, rfl⟩, lone J, q⟩
/-- the walked thing stands as it stood -/
def SqTo (K : PySem.W.Frag) (H H' : Hp) (a : Addr) (xs : List V) : Prop := (SqL K H a xs → SqL K H' a xs) ∧ (SqT K H a xs → SqT K H' a xs)
theorem SqTo.refl {K : PySem.W.Frag} {H : Hp} {a : Addr} {xs : List V} : SqTo K H H a xs := ⟨fun h => h, fun h => h⟩
theorem same_t {K : PySem.W.Frag} {H H' : Hp} {a : Addr} {xs : List V} (s : Same H H') (h : SqT K H a xs) : SqT K H' a xs :=
  h.elim (fun r => .inl (r.elim (fun e => .inl (s a _ e)) fun ⟨o, e⟩ => .inr ⟨o, s a _ e⟩)) .inr
theorem SqTo.same {K : PySem.W.Frag} {H H' : Hp} {a : Addr} {xs : List V} (s : Same H H') : SqTo K H H' a xs := ⟨s.seq, same_t s⟩
theorem Sq.same {K : PySem.W.Frag} {H H' : Hp} {a : Addr} {xs : List V} (h : Sq K H a xs) (s : Same H H') : Sq K H' a xs := h.elim (fun h => .inl (s.seq h)) fun h => .inr (same_t s h)
theorem Sq.list {K : PySem.W.Frag} {H : Hp} {a : Addr} {xs : List V} (h : H a = some (.lst xs)) : Sq K H a xs := .inl (SqL.of h)
theorem Sq.tup {K : PySem.W.Frag} {H : Hp} {a : Addr} {xs : List V} (h : H a = some (.tup xs)) : Sq K H a xs := .inr (.inl (.inl h))
abbrev ForR (J : It) (g : TG) (tb : TS) (D : Ends) (σ : L2.St) (H1 : Hp) : Prop := ∃ W : Nat → Nat → L2.St → Hp → Prop, (∃ m, W 0 m σ H1) ∧ ∀ i m σ H, W i m σ H →
  (J.stop i H ∧ D.nx σ H) ∨ (J.go i H ∧ ∃ N : L2.St → Hp → Prop, (∀ σ' H', N σ' H' → ∃ m', m' < m ∧ W (i + 1) m' σ' H') ∧ ∀ x H', J.yld i H x H' → g x σ H' fun σ2 H2 => tb { D with nx := N, ct := N, bk := D.nx } σ2 H2)
theorem for_seq {K : PySem.W.Frag} {a : Addr} {xs : List V} {g : TG} {tb : TS} {D : Ends} {σ : L2.St} {H1 : Hp} (hq : Sq K H1 a xs) (Pv : Nat → L2.St → Hp → Prop) (h0 : Pv 0 σ H1)
    (hl : ∀ i σ H', i ≤ xs.length → Pv i σ H' → SqTo K H1 H' a xs)
    (turn : ∀ i x σ H, xs[i]? = some x → Pv i σ H → g x σ H fun σ2 H2 => tb { D with nx := Pv (i + 1), ct := Pv (i + 1), bk := D.nx } σ2 H2) (fin : ∀ σ H, Pv xs.length σ H → D.nx σ H) :
    ((∃ xs, SqL K H1 a xs) ∧ ForR (Itl K a) g tb D σ H1) ∨ ((∃ xs, SqT K H1 a xs) ∧ ForR (Itt K a) g tb D σ H1) := by
  rcases hq with h | h
  · exact .inl ⟨⟨xs, h⟩, for_list (xs := xs) Pv h0 (fun i σ H' hi p => (hl i σ H' hi p).1 h) turn fin⟩
  · exact .inr ⟨⟨xs, h⟩, for_tup (xs := xs) Pv h0 (fun i σ H' hi p => (hl i σ H' hi p).2 h) turn fin⟩

/-! ### pairs as data -/
def pairD (p : Int × Int) : PyData := .tuple [.int p.1, .int p.2]
theorem dp_prs {K : PySem.W.Frag} {H : Hp} : ∀ {us : List V} {ps : List (Int × Int)}, Prs H us ps → DpAll K H us (ps.map pairD)
  | [], [], _ => .nil
  | [], _ :: _, h => nomatch h.1
  | _ :: _, [], h => nomatch h.1
  | u :: us, p :: ps, h => by
    obtain ⟨a, e1, e2⟩ := h.2 0 p rfl
    have eu : u = .ref a := Option.some.inj e1
    subst eu
    refine .cons (.tup (.inl (.inl e2)) (.cons (.int _) (.cons (.int _) .nil))) (dp_prs ⟨Nat.succ.inj h.1, fun i q e => ?_⟩)
    obtain ⟨b, f1, f2⟩ := h.2 (i + 1) q e
    exact ⟨b, f1, f2⟩
theorem lay_prs : ∀ ps : List (Int × Int), PyData.canLayAll0 (ps.map pairD) = true
  | [] => by simp only [List.map_nil, PyData.canLayAll0]
  | p :: r => by
    rw [List.map_cons, PyData.canLayAll0, lay_prs r]
    simp [pairD, PyData.canLay0, PyData.canLayAll0]
theorem depth_prs : ∀ ps : List (Int × Int), PyData.depthAll (ps.map pairD) ≤ 1
  | [] => by simp only [List.map_nil, PyData.depthAll]; omega
  | p :: r => by
    rw [List.map_cons, PyData.depthAll]  -- a pair, then the rest
    have := depth_prs r
    simp [pairD, PyData.depth, PyData.depthAll]
    omega
theorem shaped_prs (ps : List (Int × Int)) : SeqAt.shaped (PyData.list (ps.map pairD)) = true := by
  unfold SeqAt.shaped
  rw [PyData.canLay0, lay_prs, PyData.depth, Bool.true_and]
  exact decide_eq_true (by have := depth_prs ps; omega)
theorem eqv_prs (ps : List (Int × Int)) : PyData.eqv (PyData.list (ps.map pairD)) (PyData.list (ps.map pairD)) = true := SeqAt.eqv_refl _ (by rw [PyData.canLay0]; exact lay_prs ps)
theorem tabG_tabbed {Pt Pu : Addr} {H H2 : Hp} (g : GxR.TabG H Pu) (x : GxR.Tabbed Pt H H2) : GxR.TabG H2 Pu := by
  by_cases e : Pu = Pt
  · rw [e]; exact x.1
  · obtain ⟨ps, h, r⟩ := g
    exact ⟨ps, by rw [x.2 _ e]; exact h, r⟩

theorem Kp.free {H H' : Hp} {d c l : Addr} {t' : Int} (k : Kp d c H H') (S' : StAt H' d c t') (n : H' l = none) : H l = none := by
  cases e : H l with
  | none => rfl
  | some o =>
    obtain ⟨cs1, ec1, _⟩ := S'.cells
    have z := k l o (ne_of_none S'.dict n).symm (ne_of_none ec1 n).symm e
    rw [n] at z
    cases z
theorem StAt.off {H : Hp} {d c l : Addr} {t : Int} (S : StAt H d c t) (n : H l = none) : l ≠ d ∧ l ≠ c := by
  obtain ⟨cs1, ec1, _⟩ := S.cells
  exact ⟨(ne_of_none S.dict n).symm, (ne_of_none ec1 n).symm⟩
/-- no whole number among these: so it's not the draws' cells -/
def NoInt (xs : List V) : Prop := ∀ x ∈ xs, ∀ i, x ≠ .int i
theorem Kp.lst {H H' : Hp} {d c a : Addr} {t : Int} {xs : List V} (k : Kp d c H H') (S : StAt H d c t) (e : H a = some (.lst xs)) (h : NoInt xs) : H' a = some (.lst xs) := by
  obtain ⟨cs, ec, hne, _⟩ := S.cells
  refine k a _ (fun z => ?_) (fun z => ?_) e
  · rw [z, S.dict] at e
    cases e
  · rw [z, ec] at e
    have e' : cs.map V.int = xs := HO.lst.inj (Option.some.inj e)
    cases cs with
    | nil => exact hne rfl
    | cons n r => exact h (.int n) (e' ▸ List.mem_cons_self ..) n rfl
theorem Kp.tup {H H' : Hp} {d c a : Addr} {t : Int} {xs : List V} (k : Kp d c H H') (S : StAt H d c t) (e : H a = some (.tup xs)) : H' a = some (.tup xs) := k.at S e (fun _ z => nomatch z) (fun _ z => nomatch z)
theorem noInt_strs (xs : List Str) : NoInt (xs.map V.str) := fun x hx i e => by
  obtain ⟨y, _, rfl⟩ := List.mem_map.mp hx
  cases e
theorem noInt_prs {H : Hp} {us : List V} {ps : List (Int × Int)} (h : Prs H us ps) : NoInt us := fun x hx i e => by
  obtain ⟨j, hj, e1⟩ := List.getElem_of_mem hx
  obtain ⟨p, a, _, rfl, _⟩ := prs_at h (by rw [List.getElem?_eq_getElem hj, e1])
  cases e

/-- a text of one sign -/
def sgS (c : Nat) : Str := ⟨#[c]⟩
def sgn (c : Nat) : V := .str (sgS c)
def spNames : Sp := fun vs H Q _ => ∃ (d c : Addr) (t m : Int), vs = [.ref d, .int m] ∧ StAt H d c t ∧ t + 100 < 2 ^ 60 ∧ 0 ≤ m ∧ m ≤ 20 ∧
  ∀ (l : Addr) (xs : List Str) (t' : Int) H', H l = none → H' l = some (.lst (xs.map V.str)) → (∀ x ∈ xs, PyData.strOk x = true) → (xs.length : Int) = m → xs.Nodup → t ≤ t' → t' ≤ t + 20 → StAt H' d c t' → Kp d c H H' → Q (.ref l) H'
theorem join_small {cs : List Nat} (h : cs.length ≤ 10) : ((cs.map sgS).map (·.length)).sum + (cs.map sgS).length * ("" : Str).length ≤ 16777216 := by
  have e : ((cs.map sgS).map (·.length)).sum = cs.length := by
    induction cs with
    | nil => rfl
    | cons c r ih =>
      rw [List.map_cons, List.map_cons, List.sum_cons, ih (by rw [List.length_cons] at h; omega), List.length_cons]
      show 1 + r.length = r.length + 1
      omega
  rw [e, show ("" : Str).length = 0 from rfl, Nat.mul_zero]
  omega
theorem joinL_ones : ∀ cs : List Nat, TL.joinL [] (cs.map fun c => [c]) = cs
  | [] => rfl
  | [_] => rfl
  | c :: c2 :: r => by
    have ih := joinL_ones (c2 :: r)
    show [c] ++ ([] ++ TL.joinL [] ((c2 :: r).map fun c => [c])) = _
    rw [ih]
    rfl
theorem join_ok {cs : List Nat} (h : ∀ c ∈ cs, c < 1114112) : PyData.strOk (Txt.join "" (cs.map sgS)) = true := by
  have e : Txt.join "" (cs.map sgS) = SX.S cs := by
    have z := SX.join_S [] (cs.map fun c => [c])
    rw [joinL_ones, List.map_map] at z
    exact z
  rw [e]
  show (Array.all _ _) = true
  rw [Array.all_eq_true']
  intro c hc
  exact decide_eq_true (h c (by simpa using hc))
/-- words that are unlike at one sign -/
def Spelt (abc : Str) (N fi sv : Int) (js : Nat) (xs : List Str) : Prop := ∀ (k : Nat) x, xs[k]? = some x → ∃ (cs : List Nat) (ch : Nat), x = SX.S cs ∧ cs[js]? = some ch ∧ atI abc.cps.toList ((fi + sv * (k : Int)) % N) = some ch
theorem join_eq (cs : List Nat) : Txt.join "" (cs.map sgS) = SX.S cs := by
  have z := SX.join_S [] (cs.map fun c => [c])
  rw [joinL_ones, List.map_map] at z
  exact z
theorem Spelt.snoc {abc : Str} {N fi sv : Int} {js i : Nat} {xs : List Str} {cs : List Nat} {ch : Nat} (h : Spelt abc N fi sv js xs) (hl : xs.length = i) (e1 : cs[js]? = some ch) (e2 : atI abc.cps.toList ((fi + sv * (i : Int)) % N) = some ch) : Spelt abc N fi sv js (xs ++ [Txt.join "" (cs.map sgS)]) := fun k x e => by
  by_cases hk : k < xs.length
  · rw [List.getElem?_append_left hk] at e
    exact h k x e
  · rw [List.getElem?_append_right (by omega)] at e
    have hz : k - xs.length = 0 := by
      cases hq : k - xs.length with
      | zero => rfl
      | succ n => rw [hq] at e; cases e
    rw [hz] at e
    cases e
    have hki : k = i := by omega
    subst hki
    exact ⟨cs, ch, join_eq cs, e1, e2⟩
theorem Spelt.nodup {abc : Str} {N fi sv : Int} {js : Nat} {xs : List Str} (h : Spelt abc N fi sv js xs) (hN : 0 < N) (hl : (abc.cps.toList.length : Int) = N) (hn : abc.cps.toList.Nodup) (far : ∀ k k' : Nat, k < xs.length → k' < xs.length → (fi + sv * (k : Int)) % N = (fi + sv * (k' : Int)) % N → k = k') : xs.Nodup := by
  refine List.pairwise_iff_getElem.mpr fun i j hi hj hij ex => ?_
  obtain ⟨cs1, c1, e1, f1, g1⟩ := h i xs[i] (List.getElem?_eq_getElem hi)
  obtain ⟨cs2, c2, e2, f2, g2⟩ := h j xs[j] (List.getElem?_eq_getElem hj)
  rw [e1, e2] at ex
  have ec : cs1 = cs2 := SX.S_inj ex
  rw [ec, f2] at f1
  have ecc : c2 = c1 := Option.some.inj f1
  rw [← ecc] at g1
  obtain ⟨a, ha⟩ := Int.eq_ofNat_of_zero_le (Int.emod_nonneg (fi + sv * (i : Int)) (show N ≠ 0 by omega))
  obtain ⟨b, hb⟩ := Int.eq_ofNat_of_zero_le (Int.emod_nonneg (fi + sv * (j : Int)) (show N ≠ 0 by omega))
  have la := Int.emod_lt_of_pos (fi + sv * (i : Int)) hN
  have lb := Int.emod_lt_of_pos (fi + sv * (j : Int)) hN
  rw [ha] at g1 la
  rw [hb] at g2 lb
  have a1 : a < abc.cps.toList.length := by omega
  have b1 : b < abc.cps.toList.length := by omega
  have g1' : abc.cps.toList[a]? = some c2 := by
    have z := atI_nat (List.getElem?_eq_getElem a1)
    rw [z] at g1
    rw [List.getElem?_eq_getElem a1]
    exact g1
  have g2' : abc.cps.toList[b]? = some c2 := by
    have z := atI_nat (List.getElem?_eq_getElem b1)
    rw [z] at g2
    rw [List.getElem?_eq_getElem b1]
    exact g2
  have eab : a = b := (List.getElem?_inj a1 hn).mp (g1'.trans g2'.symm)
  have := far i j (by omega) hj (by rw [ha, hb, eab])
  omega
/-! ### _law_names -/

theorem snoc_cases {α : Type} (l : List α) : l = [] ∨ ∃ l' x, l = l' ++ [x] := by
  rcases List.eq_nil_or_concat l with h | ⟨l', x, h⟩
  · exact .inl h
  · exact .inr ⟨l', x, by rw [h]; simp⟩
theorem _root_.GP.Prs.last {H : Hp} {us : List V} {ps : List (Int × Int)} {p : Int × Int} (h : Prs H us (ps ++ [p])) : ∃ us' T, us = us' ++ [.ref T] ∧ H T = some (.tup [.int p.1, .int p.2]) ∧ Prs H us' ps := by
  have hl := h.1
  rw [List.length_append] at hl
  rcases snoc_cases us with e | ⟨us', x, e⟩
  · rw [e] at hl
    simp at hl
  · subst e
    rw [List.length_append] at hl
    have hl' : us'.length = ps.length := Nat.add_right_cancel hl
    obtain ⟨T, e1, e2⟩ := h.2 ps.length p (by rw [List.getElem?_append_right (Nat.le_refl _), Nat.sub_self]; rfl)
    rw [List.getElem?_append_right (by omega), hl', Nat.sub_self] at e1
    refine ⟨us', T, by rw [Option.some.inj e1], e2, hl', fun i q eq => ?_⟩
    have hi : i < ps.length := (List.getElem?_eq_some_iff.mp eq).1
    obtain ⟨b, f1, f2⟩ := h.2 i q (by rw [List.getElem?_append_left hi]; exact eq)
    rw [List.getElem?_append_left (by omega)] at f1
    exact ⟨b, f1, f2⟩
theorem eqv_pr_nil (ps : List (Int × Int)) : PyData.eqv (PyData.list (ps.map pairD)) (PyData.list []) = ps.isEmpty := by
  cases ps with
  | nil => simp [PyData.eqv, PyData.eqvAll]
  | cons p r => simp [PyData.eqv, PyData.eqvAll]
def rIxS (K : PySem.W.Frag) : R2 := fun x y H Q => ∃ p xs i v, x = .ref p ∧ y = .int i ∧ Sq K H p xs ∧ atI xs i = some v ∧ Q v H
theorem ix_seq {X : Cx} : IxR X (rIxS X.K) := by
  intro value slice pins s σ H x y v u Q I rx ry h hs
  obtain ⟨p, xs, i, z, e1, e2, hq, he, q⟩ := h
  rcases hq with hq | hq
  · exact ix_list value slice pins s σ H x y v u Q I rx ry ⟨p, xs, i, z, e1, e2, hq, he, q⟩ hs
  · exact ix_tup value slice pins s σ H x y v u Q I rx ry ⟨p, xs, i, z, e1, e2, hq, he, q⟩ hs

/-! ### the table of the def that holds the generator expression -/
theorem tab_at {Pt : Addr} {H H2 : Hp} {b : Addr} {o : HO} (g : GxR.TabG H Pt) (t : GxR.Tabbed Pt H H2) (e : H b = some o) (h : ∀ q, o ≠ .tbl q) : H2 b = some o := by
  obtain ⟨ps, hP, _⟩ := g
  rw [t.2 b (ne_of e hP (h ps))]
  exact e
theorem StAt.tab {Pt : Addr} {H H2 : Hp} {d c : Addr} {t : Int} (S : StAt H d c t) (g : GxR.TabG H Pt) (x : GxR.Tabbed Pt H H2) : StAt H2 d c t :=
  ⟨tab_at g x S.dict (fun _ z => nomatch z), let ⟨cs, e, r⟩ := S.cells; ⟨cs, tab_at g x e (fun _ z => nomatch z), r⟩, S.pos⟩
theorem _root_.GP.Prs.tab {Pt : Addr} {H H2 : Hp} {vs : List V} {ps : List (Int × Int)} (h : Prs H vs ps) (g : GxR.TabG H Pt) (x : GxR.Tabbed Pt H H2) : Prs H2 vs ps :=
  ⟨h.1, fun i p e => let ⟨a, e1, e2⟩ := h.2 i p e; ⟨a, e1, tab_at g x e2 (fun _ z => nomatch z)⟩⟩
theorem tabG_same {Pt : Addr} {H H' : Hp} (g : GxR.TabG H Pt) (s : Same H H') : GxR.TabG H' Pt := let ⟨ps, e, r⟩ := g; ⟨ps, s _ _ e, r⟩
theorem tabG_kp {Pt : Addr} {H H' : Hp} {d c : Addr} {t : Int} (g : GxR.TabG H Pt) (S : StAt H d c t) (k : Kp d c H H') : GxR.TabG H' Pt := let ⟨ps, e, r⟩ := g; ⟨ps, k.at S e (fun _ z => nomatch z) (fun _ z => nomatch z), r⟩
theorem tabG_upd {Pt : Addr} {H : Hp} {l : Addr} {o u : HO} (g : GxR.TabG H Pt) (e : H l = some o) (h : ∀ q, o ≠ .tbl q) : GxR.TabG (upd H l u) Pt := let ⟨ps, eP, r⟩ := g; ⟨ps, by rw [upd_ne (ne_of e eP (h ps)).symm]; exact eP, r⟩
theorem tabbed_free {Pt : Addr} {H H2 : Hp} {p : Addr} (g : GxR.TabG H Pt) (x : GxR.Tabbed Pt H H2) (h : H2 p = none) : H p = none := by
  obtain ⟨ps, e, _⟩ := x.1
  rw [← x.2 p (fun z => by rw [z, e] at h; cases h)]
  exact h

/-- a walk over what stood before a list was begun -/
theorem for_seqS {K : PySem.W.Frag} {a : Addr} {xs : List V} {g : TG} {tb : TS} {D : Ends} {σ : L2.St} {H0 H1 : Hp} (hq : Sq K H0 a xs) (s1 : Same H0 H1) (Pv : Nat → L2.St → Hp → Prop) (h0 : Pv 0 σ H1)
    (hl : ∀ i σ H', Pv i σ H' → Same H0 H')
    (turn : ∀ i x σ H, xs[i]? = some x → Pv i σ H → g x σ H fun σ2 H2 => tb { D with nx := Pv (i + 1), ct := Pv (i + 1), bk := D.nx } σ2 H2) (fin : ∀ σ H, Pv xs.length σ H → D.nx σ H) :
    ((∃ xs, SqL K H1 a xs) ∧ ForR (Itl K a) g tb D σ H1) ∨ ((∃ xs, SqT K H1 a xs) ∧ ForR (Itt K a) g tb D σ H1) := by
  rcases hq with h | h
  · exact .inl ⟨⟨xs, s1.seq h⟩, for_list (xs := xs) Pv h0 (fun i σ H' _ p => (hl i σ H' p).seq h) turn fin⟩
  · exact .inr ⟨⟨xs, same_t s1 h⟩, for_tup (xs := xs) Pv h0 (fun i σ H' _ p => same_t (hl i σ H' p) h) turn fin⟩

abbrev LcR (J : It) (g : TG) (tt : TT) (te : TE) (vs : List Nat) (σ : L2.St) (D : Addr) (Qd : Addr → Hp → Prop) (H1 : Hp) : Prop := ∃ W : Nat → Nat → Hp → Prop, (∃ m, W 0 m (upd H1 D (.lst []))) ∧ ∀ i m H, W i m H →
  (J.stop i H ∧ Qd D H) ∨ (J.go i H ∧ ∃ Nx : Hp → Prop, (∀ H', Nx H' → ∃ m', m' < m ∧ W (i + 1) m' H') ∧ ∀ x H', J.yld i H x H' → g x (wipe σ vs) H' fun σ2 H2 => wipe σ2 vs = wipe σ vs ∧ tt σ2 H2 fun b H3 => if b = true then
    te σ2 H3 fun y H4 => ∃ acc, H4 D = some (.lst acc) ∧ acc.length < sizeLine ∧ Nx (upd H4 D (.lst (acc ++ [y]))) else Nx H3)
theorem lc_seq {K : PySem.W.Frag} {a : Addr} {xs : List V} {g : TG} {tt : TT} {te : TE} {vs : List Nat} {σ : L2.St} {H1 : Hp} {Qd : Addr → Hp → Prop} (hq : Sq K H1 a xs) (Pv : Addr → Nat → Hp → Prop) (h0 : ∀ D, H1 D = none → Pv D 0 (upd H1 D (.lst [])))
    (still : ∀ D i H', H1 D = none → Pv D i H' → SqTo K H1 H' a xs)
    (turn : ∀ D i x H', H1 D = none → xs[i]? = some x → Pv D i H' → g x (wipe σ vs) H' fun σ2 H2 => wipe σ2 vs = wipe σ vs ∧ tt σ2 H2 fun b H3 =>
      if b = true then te σ2 H3 fun y H4 => ∃ acc, H4 D = some (.lst acc) ∧ acc.length < sizeLine ∧ Pv D (i + 1) (upd H4 D (.lst (acc ++ [y]))) else Pv D (i + 1) H3) (fin : ∀ D H', H1 D = none → Pv D xs.length H' → Qd D H') :
    ((∃ xs, SqL K H1 a xs) ∧ ∀ D, H1 D = none → LcR (Itl K a) g tt te vs σ D Qd H1) ∨ ((∃ xs, SqT K H1 a xs) ∧ ∀ D, H1 D = none → LcR (Itt K a) g tt te vs σ D Qd H1) := by
  rcases hq with h | h
  · exact .inl ⟨⟨xs, h⟩, fun D nD => lc_list (xs := xs) (Pv D) (h0 D nD) (fun i H' _ p => (still D i H' nD p).1 h) (fun i x H' e p => turn D i x H' nD e p) (fun H' p => fin D H' nD p)⟩
  · exact .inr ⟨⟨xs, h⟩, fun D nD => lc_tup (xs := xs) (Pv D) (h0 D nD) (fun i H' _ p => (still D i H' nD p).2 h) (fun i x H' e p => turn D i x H' nD e p) (fun H' p => fin D H' nD p)⟩

/-! ### sets by stretches: the mathematics -/
theorem inB_iff {n a b : Int} : inB n a b = true ↔ a ≤ n ∧ n ≤ b := by
  unfold inB
  rw [Bool.and_eq_true, decide_eq_true_eq (p := a ≤ n), decide_eq_true_eq]
theorem anyP_iff {n : Int} {ps : List (Int × Int)} : anyP (inB n) ps = true ↔ ∃ p ∈ ps, p.1 ≤ n ∧ n ≤ p.2 := by
  unfold anyP
  rw [List.any_eq_true]
  constructor
  · rintro ⟨p, hp, e⟩
    exact ⟨p, hp, inB_iff.mp e⟩
  · rintro ⟨p, hp, e⟩
    exact ⟨p, hp, inB_iff.mpr e⟩
/-- the same numbers -/
def Alike (ps qs : List (Int × Int)) : Prop := ∀ n : Int, (∃ p ∈ ps, p.1 ≤ n ∧ n ≤ p.2) ↔ ∃ p ∈ qs, p.1 ≤ n ∧ n ≤ p.2
theorem Alike.any {ps qs : List (Int × Int)} (h : Alike ps qs) (n : Int) : anyP (inB n) ps = anyP (inB n) qs := by
  rw [Bool.eq_iff_iff, anyP_iff, anyP_iff]
  exact h n
theorem Alike.symm {ps qs : List (Int × Int)} (h : Alike ps qs) : Alike qs ps := fun n => (h n).symm
theorem Alike.trans {ps qs rs : List (Int × Int)} (h : Alike ps qs) (h' : Alike qs rs) : Alike ps rs := fun n => (h n).trans (h' n)
theorem Alike.of_mem {ps qs : List (Int × Int)} (h : ∀ p, p ∈ ps ↔ p ∈ qs) : Alike ps qs := fun n => ⟨fun ⟨p, hp, e⟩ => ⟨p, (h p).mp hp, e⟩, fun ⟨p, hp, e⟩ => ⟨p, (h p).mpr hp, e⟩⟩
/-- of each set of numbers there is just one list -/
theorem ris_one : ∀ {rs rs' : List (Int × Int)} {lo lo' : Int}, Ris lo rs → Ris lo' rs' → Alike rs rs' → rs = rs'
  | [], [], _, _, _, _, _ => by rfl
  | [], q :: r, _, _, _, h', e => by
    obtain ⟨p, hp, _⟩ := (e q.1).mpr ⟨q, List.mem_cons_self .., Int.le_refl _, h'.2.1⟩
    exact nomatch hp
  | q :: r, [], _, _, h, _, e => by
    obtain ⟨p, hp, _⟩ := (e q.1).mp ⟨q, List.mem_cons_self .., Int.le_refl _, h.2.1⟩
    exact nomatch hp
  | (a, b) :: r, (a', b') :: r', lo, lo', h, h', e => by
    have hb : a ≤ b := h.2.1
    have hb' : a' ≤ b' := h'.2.1
    have tl : ∀ p ∈ r, b + 2 ≤ p.1 ∧ p.1 ≤ p.2 := Ris.le h.2.2
    have tl' : ∀ p ∈ r', b' + 2 ≤ p.1 ∧ p.1 ≤ p.2 := Ris.le h'.2.2
    have m1 : a' ≤ a := by
      obtain ⟨p, hp, e1, e2⟩ := (e a).mp ⟨(a, b), List.mem_cons_self .., Int.le_refl _, hb⟩
      rcases List.mem_cons.mp hp with z | z
      · rw [z] at e1; exact e1
      · have := tl' p z; omega
    have m2 : a ≤ a' := by
      obtain ⟨p, hp, e1, e2⟩ := (e a').mpr ⟨(a', b'), List.mem_cons_self .., Int.le_refl _, hb'⟩
      rcases List.mem_cons.mp hp with z | z
      · rw [z] at e1; exact e1
      · have := tl p z; omega
    have ea : a = a' := by omega
    have n1 : ¬ b < b' := fun lt => by
      obtain ⟨p, hp, e1, e2⟩ := (e (b + 1)).mpr ⟨(a', b'), List.mem_cons_self .., by show a' ≤ b + 1; omega, by show b + 1 ≤ b'; omega⟩
      rcases List.mem_cons.mp hp with z | z
      · rw [z] at e2; have : b + 1 ≤ b := e2; omega
      · have := tl p z; omega
    have n2 : ¬ b' < b := fun lt => by
      obtain ⟨p, hp, e1, e2⟩ := (e (b' + 1)).mp ⟨(a, b), List.mem_cons_self .., by show a ≤ b' + 1; omega, by show b' + 1 ≤ b; omega⟩
      rcases List.mem_cons.mp hp with z | z
      · rw [z] at e2; have : b' + 1 ≤ b' := e2; omega
      · have := tl' p z; omega
    have eb : b = b' := by omega
    subst ea eb
    have er : Alike r r' := fun n => by
      constructor
      · rintro ⟨p, hp, e1, e2⟩
        obtain ⟨p', hp', f1, f2⟩ := (e n).mp ⟨p, List.mem_cons_of_mem _ hp, e1, e2⟩
        rcases List.mem_cons.mp hp' with z | z
        · rw [z] at f2
          have : n ≤ b := f2
          have := tl p hp
          omega
        · exact ⟨p', z, f1, f2⟩
      · rintro ⟨p, hp, e1, e2⟩
        obtain ⟨p', hp', f1, f2⟩ := (e n).mpr ⟨p, List.mem_cons_of_mem _ hp, e1, e2⟩
        rcases List.mem_cons.mp hp' with z | z
        · rw [z] at f2
          have : n ≤ b := f2
          have := tl' p hp
          omega
        · exact ⟨p', z, f1, f2⟩
    rw [ris_one h.2.2 h'.2.2 er]
theorem Ris.front : ∀ {lo : Int} {rs : List (Int × Int)} {q : Int × Int}, Ris lo (rs ++ [q]) → Ris lo rs ∧ (∀ r ∈ rs, r.2 + 2 ≤ q.1) ∧ lo ≤ q.1 ∧ q.1 ≤ q.2
  | lo, [], q, h => ⟨True.intro, (fun _ z => nomatch z), h.1, h.2.1⟩
  | lo, r :: rs, q, h => by
    obtain ⟨h1, h2, h3, h4⟩ := Ris.front h.2.2
    refine ⟨⟨h.1, h.2.1, h1⟩, fun x hx => ?_, by have := h.1; have := h.2.1; omega, h4⟩
    rcases List.mem_cons.mp hx with z | z
    · rw [z]; exact h3
    · exact h2 x z
/-- what is told of pairs: a set of just their numbers -/
structure SetLike (ps rs : List (Int × Int)) : Prop where
  ris : ∃ lo, Ris lo rs
  same : Alike rs ps
  len : rs.length ≤ ps.length
/-- between two turns: the pairs so far, rising by their firsts, and what is merged of them -/
structure Mrg (pre rs : List (Int × Int)) : Prop extends SetLike pre rs where
  firsts : ∀ r ∈ rs, ∃ p ∈ pre, p.1 = r.1
theorem alike_snoc {pre : List (Int × Int)} {rs rs' : List (Int × Int)} {p : Int × Int} (h : Alike rs pre) (e : ∀ n, (∃ q ∈ rs', q.1 ≤ n ∧ n ≤ q.2) ↔ (∃ q ∈ rs, q.1 ≤ n ∧ n ≤ q.2) ∨ (p.1 ≤ n ∧ n ≤ p.2)) : Alike rs' (pre ++ [p]) := fun n => by
  rw [e n, h n]
  constructor
  · rintro (⟨q, hq, z⟩ | z)
    · exact ⟨q, List.mem_append_left _ hq, z⟩
    · exact ⟨p, List.mem_append_right _ (List.mem_singleton.mpr rfl), z⟩
  · rintro ⟨q, hq, z⟩
    rcases List.mem_append.mp hq with y | y
    · exact .inl ⟨q, y, z⟩
    · rw [List.mem_singleton.mp y] at z
      exact .inr z
theorem Mrg.join {pre rs : List (Int × Int)} {a b : Int} {p : Int × Int} (m : Mrg pre (rs ++ [(a, b)])) (hp : p.1 ≤ p.2) (ord : ∀ q ∈ pre, q.1 ≤ p.1) (near : p.1 ≤ b + 1) : Mrg (pre ++ [p]) (rs ++ [(a, if p.2 > b then p.2 else b)]) := by
  obtain ⟨lo, hr⟩ := m.ris
  obtain ⟨h1, h2, h3, h4⟩ := Ris.front hr
  obtain ⟨q, hq, eq⟩ := m.firsts (a, b) (List.mem_append_right _ (List.mem_singleton.mpr rfl))
  have hap : a ≤ p.1 := by have := ord q hq; have : q.1 = a := eq; omega
  have hab : a ≤ b := h4
  have big : a ≤ (if p.2 > b then p.2 else b) := by split <;> omega
  refine ⟨⟨⟨lo, h1.snoc h3 h2 big⟩, alike_snoc m.same fun n => ?_, ?_⟩, fun r hr => ?_⟩
  · constructor
    · rintro ⟨q, hq, z⟩
      rcases List.mem_append.mp hq with y | y
      · exact .inl ⟨q, List.mem_append_left _ y, z⟩
      · rw [List.mem_singleton.mp y] at z
        have z1 : a ≤ n := z.1
        have z2 : n ≤ (if p.2 > b then p.2 else b) := z.2
        by_cases c : n ≤ b
        · exact .inl ⟨(a, b), List.mem_append_right _ (List.mem_singleton.mpr rfl), z1, c⟩
        · refine .inr ⟨by omega, ?_⟩
          split at z2 <;> omega
    · rintro (⟨q, hq, z⟩ | z)
      · rcases List.mem_append.mp hq with y | y
        · exact ⟨q, List.mem_append_left _ y, z⟩
        · rw [List.mem_singleton.mp y] at z
          refine ⟨_, List.mem_append_right _ (List.mem_singleton.mpr rfl), z.1, ?_⟩
          have z2 : n ≤ b := z.2
          show n ≤ (if p.2 > b then p.2 else b)
          split <;> omega
      · refine ⟨_, List.mem_append_right _ (List.mem_singleton.mpr rfl), by show a ≤ n; omega, ?_⟩
        show n ≤ (if p.2 > b then p.2 else b)
        split <;> omega
  · have := m.len
    rw [List.length_append, List.length_append] at *
    show rs.length + 1 ≤ pre.length + 1
    have : rs.length + 1 ≤ pre.length := this
    omega
  · rcases List.mem_append.mp hr with y | y
    · obtain ⟨q, hq, e⟩ := m.firsts r (List.mem_append_left _ y)
      exact ⟨q, List.mem_append_left _ hq, e⟩
    · rw [List.mem_singleton.mp y]
      exact ⟨q, List.mem_append_left _ hq, eq⟩
theorem Mrg.new {pre rs : List (Int × Int)} {p : Int × Int} (m : Mrg pre rs) (hp : p.1 ≤ p.2) (ord : ∀ q ∈ pre, q.1 ≤ p.1) (far : ∀ r ∈ rs, r.2 + 2 ≤ p.1) : Mrg (pre ++ [p]) (rs ++ [p]) := by
  obtain ⟨lo, hr⟩ := m.ris
  refine ⟨⟨?_, alike_snoc m.same fun n => ?_, by have := m.len; rw [List.length_append, List.length_append]; show rs.length + 1 ≤ pre.length + 1; omega⟩, fun r hr => ?_⟩
  · cases rs with
    | nil => exact ⟨p.1, Int.le_refl _, hp, True.intro⟩
    | cons q r =>
      refine ⟨lo, hr.snoc ?_ far hp⟩
      have := hr.le q (List.mem_cons_self ..)
      have := far q (List.mem_cons_self ..)
      omega
  · constructor
    · rintro ⟨q, hq, z⟩
      rcases List.mem_append.mp hq with y | y
      · exact .inl ⟨q, y, z⟩
      · rw [List.mem_singleton.mp y] at z; exact .inr z
    · rintro (⟨q, hq, z⟩ | z)
      · exact ⟨q, List.mem_append_left _ hq, z⟩
      · exact ⟨p, List.mem_append_right _ (List.mem_singleton.mpr rfl), z⟩
  · rcases List.mem_append.mp hr with y | y
    · obtain ⟨q, hq, e⟩ := m.firsts r y
      exact ⟨q, List.mem_append_left _ hq, e⟩
    · rw [List.mem_singleton.mp y]
      exact ⟨p, List.mem_append_right _ (List.mem_singleton.mpr rfl), rfl⟩
theorem Mrg.nil : Mrg [] [] := ⟨⟨⟨0, True.intro⟩, fun _ => Iff.rfl, Nat.le_refl _⟩, fun _ z => nomatch z⟩

/-! ### sets put together: the mathematics -/
def InS (ps : List (Int × Int)) (n : Int) : Prop := ∃ p ∈ ps, p.1 ≤ n ∧ n ≤ p.2
theorem inS_nil {n : Int} : ¬ InS [] n := fun ⟨_, h, _⟩ => nomatch h
theorem inS_cons {p : Int × Int} {r : List (Int × Int)} {n : Int} : InS (p :: r) n ↔ (p.1 ≤ n ∧ n ≤ p.2) ∨ InS r n := by
  constructor
  · rintro ⟨q, hq, e⟩
    rcases List.mem_cons.mp hq with z | z
    · rw [z] at e; exact .inl e
    · exact .inr ⟨q, z, e⟩
  · rintro (e | ⟨q, hq, e⟩)
    · exact ⟨p, List.mem_cons_self .., e⟩
    · exact ⟨q, List.mem_cons_of_mem _ hq, e⟩
theorem inS_append {ps qs : List (Int × Int)} {n : Int} : InS (ps ++ qs) n ↔ InS ps n ∨ InS qs n := by
  constructor
  · rintro ⟨q, hq, e⟩
    rcases List.mem_append.mp hq with z | z
    · exact .inl ⟨q, z, e⟩
    · exact .inr ⟨q, z, e⟩
  · rintro (⟨q, hq, e⟩ | ⟨q, hq, e⟩)
    · exact ⟨q, List.mem_append_left _ hq, e⟩
    · exact ⟨q, List.mem_append_right _ hq, e⟩
theorem Ris.low {lo n : Int} {ps : List (Int × Int)} (h : Ris lo ps) (e : InS ps n) : lo ≤ n := by
  obtain ⟨p, hp, e1, e2⟩ := e
  have := h.le p hp
  omega
theorem Ris.mono : ∀ {lo lo' : Int} {ps : List (Int × Int)}, Ris lo ps → lo' ≤ lo → Ris lo' ps
  | _, _, [], _, _ => True.intro
  | _, _, _ :: _, h, e => ⟨Int.le_trans e h.1, h.2⟩
def mxI (i j : Int) : Int := if j > i then j else i
def mnI (i j : Int) : Int := if j < i then j else i
theorem mxI_le {i j n : Int} : mxI i j ≤ n ↔ i ≤ n ∧ j ≤ n := by unfold mxI; split <;> omega
theorem le_mxI {i j n : Int} : n ≤ mxI i j ↔ n ≤ i ∨ n ≤ j := by unfold mxI; split <;> omega
theorem le_mnI {i j n : Int} : n ≤ mnI i j ↔ n ≤ i ∧ n ≤ j := by unfold mnI; split <;> omega
theorem mnI_le {i j n : Int} : mnI i j ≤ n ↔ i ≤ n ∨ j ≤ n := by unfold mnI; split <;> omega
/-- going through both at once -/
def bothF : List (Int × Int) → List (Int × Int) → List (Int × Int)
  | [], _ => []
  | _ :: _, [] => []
  | p :: r, q :: s => (if mxI p.1 q.1 ≤ mnI p.2 q.2 then [(mxI p.1 q.1, mnI p.2 q.2)] else []) ++ (if p.2 < q.2 then bothF r (q :: s) else bothF (p :: r) s)
termination_by ps qs => ps.length + qs.length
theorem bothF_nil (ps : List (Int × Int)) : bothF ps [] = [] := by cases ps <;> rw [bothF]
theorem bothF_ris : ∀ {ps qs : List (Int × Int)} {lo lo' k : Int}, Ris lo ps → Ris lo' qs → (k ≤ lo ∨ k ≤ lo') → Ris k (bothF ps qs)
  | [], _, _, _, _, _, _, _ => by rw [bothF]; exact True.intro
  | _ :: _, [], _, _, _, _, _, _ => by rw [bothF]; exact True.intro
  | p :: r, q :: s, lo, lo', k, h, h', hk => by
    rw [bothF]
    have h1 := h.1
    have h2 := h.2.1
    have h1' := h'.1
    have h2' := h'.2.1
    by_cases c : mxI p.1 q.1 ≤ mnI p.2 q.2
    · rw [if_pos c]
      refine ⟨?_, c, ?_⟩
      · show k ≤ mxI p.1 q.1
        rw [le_mxI]
        omega
      · by_cases d : p.2 < q.2
        · rw [if_pos d]
          refine bothF_ris h.2.2 h' (.inl ?_)
          show mnI p.2 q.2 + 2 ≤ p.2 + 2
          have : mnI p.2 q.2 ≤ p.2 := mnI_le.mpr (.inl (Int.le_refl _))
          omega
        · rw [if_neg d]
          refine bothF_ris h h'.2.2 (.inr ?_)
          show mnI p.2 q.2 + 2 ≤ q.2 + 2
          have : mnI p.2 q.2 ≤ q.2 := mnI_le.mpr (.inr (Int.le_refl _))
          omega
    · rw [if_neg c, List.nil_append]
      by_cases d : p.2 < q.2
      · rw [if_pos d]
        refine bothF_ris h.2.2 h' ?_
        omega
      · rw [if_neg d]
        refine bothF_ris h h'.2.2 ?_
        omega
termination_by ps qs => ps.length + qs.length
theorem bothF_in {n : Int} : ∀ {ps qs : List (Int × Int)} {lo lo' : Int}, Ris lo ps → Ris lo' qs → (InS (bothF ps qs) n ↔ InS ps n ∧ InS qs n)
  | [], _, _, _, _, _ => by rw [bothF]; exact ⟨fun h => absurd h inS_nil, fun h => h.1⟩
  | _ :: _, [], _, _, _, _ => by rw [bothF]; exact ⟨fun h => absurd h inS_nil, fun h => h.2⟩
  | p :: r, q :: s, lo, lo', h, h' => by
    rw [bothF, inS_append, inS_cons, inS_cons]
    have e1 : InS (if mxI p.1 q.1 ≤ mnI p.2 q.2 then [(mxI p.1 q.1, mnI p.2 q.2)] else []) n ↔ (p.1 ≤ n ∧ n ≤ p.2) ∧ (q.1 ≤ n ∧ n ≤ q.2) := by
      by_cases c : mxI p.1 q.1 ≤ mnI p.2 q.2
      · rw [if_pos c, inS_cons]
        show ((mxI p.1 q.1 ≤ n ∧ n ≤ mnI p.2 q.2) ∨ InS [] n) ↔ _
        rw [mxI_le, le_mnI]
        constructor
        · rintro (z | z)
          · omega
          · exact absurd z inS_nil
        · intro z
          exact .inl (by omega)
      · rw [if_neg c]
        constructor
        · exact fun z => absurd z inS_nil
        · intro z
          refine absurd (Int.le_trans (mxI_le.mpr ⟨z.1.1, z.2.1⟩) (le_mnI.mpr ⟨z.1.2, z.2.2⟩)) c
    rw [e1]
    by_cases d : p.2 < q.2
    · rw [if_pos d, bothF_in h.2.2 h', inS_cons]
      have no : InS s n → ¬ n ≤ p.2 := fun z => by
        have := h'.2.2.low z
        omega
      constructor
      · rintro (⟨z1, z2⟩ | ⟨z1, z2⟩)
        · exact ⟨.inl z1, .inl z2⟩
        · exact ⟨.inr z1, z2⟩
      · rintro ⟨z1 | z1, z2 | z2⟩
        · exact .inl ⟨z1, z2⟩
        · exact absurd z1.2 (no z2)
        · exact .inr ⟨z1, .inl z2⟩
        · exact .inr ⟨z1, .inr z2⟩
    · rw [if_neg d, bothF_in h h'.2.2, inS_cons]
      have no : InS r n → ¬ n ≤ q.2 := fun z => by
        have := h.2.2.low z
        omega
      constructor
      · rintro (⟨z1, z2⟩ | ⟨z1, z2⟩)
        · exact ⟨.inl z1, .inl z2⟩
        · exact ⟨z1, .inr z2⟩
      · rintro ⟨z1 | z1, z2 | z2⟩
        · exact .inl ⟨z1, z2⟩
        · exact .inr ⟨.inl z1, z2⟩
        · exact absurd z2.2 (no z1)
        · exact .inr ⟨.inr z1, z2⟩
termination_by ps qs => ps.length + qs.length
/-- what lies between the stretches of a set -/
def gapsF (e : Int) : Int → List (Int × Int) → List (Int × Int)
  | st, [] => [(st, e)]
  | st, p :: r => (st, mnI (p.1 - 1) e) :: gapsF e (mxI st (p.2 + 1)) r
theorem gapsF_length (e : Int) : ∀ (qs : List (Int × Int)) (st : Int), (gapsF e st qs).length = qs.length + 1
  | [], _ => rfl
  | _ :: r, _ => by rw [gapsF, List.length_cons, gapsF_length e r, List.length_cons]
theorem gapsF_in {e n : Int} : ∀ {qs : List (Int × Int)} {lo st : Int}, Ris lo qs → (InS (gapsF e st qs) n ↔ (st ≤ n ∧ n ≤ e) ∧ ¬ InS qs n)
  | [], _, st, _ => by
    rw [gapsF, inS_cons]
    constructor
    · rintro (z | z)
      · exact ⟨z, inS_nil⟩
      · exact absurd z inS_nil
    · exact fun z => .inl z.1
  | p :: r, lo, st, h => by
    rw [gapsF, inS_cons, gapsF_in h.2.2, inS_cons]
    show ((st ≤ n ∧ n ≤ mnI (p.1 - 1) e) ∨ (mxI st (p.2 + 1) ≤ n ∧ n ≤ e) ∧ ¬ InS r n) ↔ _
    rw [le_mnI, mxI_le]
    have h2 := h.2.1
    have no : n ≤ p.2 + 1 → ¬ InS r n := fun z y => by
      have := h.2.2.low y
      omega
    constructor
    · rintro (z | ⟨z, y⟩)
      · refine ⟨by omega, ?_⟩
        rintro (x | x)
        · omega
        · exact no (by omega) x
      · refine ⟨by omega, ?_⟩
        rintro (x | x)
        · omega
        · exact y x
    · rintro ⟨z, y⟩
      by_cases c : n < p.1
      · exact .inl (by omega)
      · refine .inr ⟨?_, fun x => y (.inr x)⟩
        have : ¬ (p.1 ≤ n ∧ n ≤ p.2) := fun x => y (.inl x)
        omega
/-- a set of just the numbers of which pr holds -/
structure Told (pr : Int → Prop) (rs : List (Int × Int)) : Prop where
  ris : ∃ lo, Ris lo rs
  same : ∀ n, InS rs n ↔ pr n
theorem Told.one {pr pr' : Int → Prop} {rs rs' : List (Int × Int)} (h : Told pr rs) (h' : Told pr' rs') (e : ∀ n, pr n ↔ pr' n) : rs = rs' := by
  obtain ⟨lo, r⟩ := h.ris
  obtain ⟨lo', r'⟩ := h'.ris
  exact ris_one r r' fun n => (h.same n).trans ((e n).trans (h'.same n).symm)
theorem Told.of {lo : Int} {rs : List (Int × Int)} (h : Ris lo rs) : Told (InS rs) rs := ⟨⟨lo, h⟩, fun _ => Iff.rfl⟩
theorem SetLike.told {ps rs : List (Int × Int)} (h : SetLike ps rs) : Told (InS ps) rs := ⟨h.ris, h.same⟩
theorem Told.cong {pr pr' : Int → Prop} {rs : List (Int × Int)} (h : Told pr rs) (e : ∀ n, pr n ↔ pr' n) : Told pr' rs := ⟨h.ris, fun n => (h.same n).trans (e n)⟩
theorem Told.nneg {pr : Int → Prop} {rs : List (Int × Int)} (h : Told pr rs) (hn : ∀ n, pr n → 0 ≤ n) : Ris 0 rs := by
  obtain ⟨lo, r⟩ := h.ris
  cases rs with
  | nil => exact True.intro
  | cons p q => exact ⟨hn _ ((h.same _).mp (inS_cons.mpr (.inl ⟨Int.le_refl _, r.2.1⟩))), r.2⟩

theorem cut_back (xs : List V) (m : Nat) : cutV xs (some (m : Int)) none = xs.drop m := by
  unfold cutV
  rw [HT.sIx_none, HT.sIx_nat]
  by_cases h : m ≤ xs.length
  · rw [Nat.min_eq_left h]
    exact List.take_of_length_le (by rw [List.length_drop]; exact Nat.le_refl _)
  · rw [Nat.min_eq_right (by omega), Nat.sub_self, List.take_zero, List.drop_eq_nil_of_le (by omega)]
theorem _root_.GP.Prs.append {H : Hp} {us ws : List V} {ps qs : List (Int × Int)} (h : Prs H us ps) (h' : Prs H ws qs) : Prs H (us ++ ws) (ps ++ qs) := by
  refine ⟨by rw [List.length_append, List.length_append, h.1, h'.1], fun i p e => ?_⟩
  by_cases hi : i < ps.length
  · rw [List.getElem?_append_left hi] at e
    rw [List.getElem?_append_left (by rw [h.1]; exact hi)]
    exact h.2 i p e
  · rw [List.getElem?_append_right (by omega)] at e
    rw [List.getElem?_append_right (by rw [h.1]; omega), h.1]
    exact h'.2 _ p e
theorem _root_.GP.Prs.take {H : Hp} {us : List V} {ps : List (Int × Int)} (h : Prs H us ps) (n : Nat) : Prs H (us.take n) (ps.take n) := by
  refine ⟨by rw [List.length_take, List.length_take, h.1], fun i p e => ?_⟩
  rw [List.getElem?_take] at e ⊢
  split at e
  · rename_i hi
    rw [if_pos hi]
    exact h.2 i p e
  · cases e
theorem _root_.GP.Prs.drop {H : Hp} {us : List V} {ps : List (Int × Int)} (h : Prs H us ps) (n : Nat) : Prs H (us.drop n) (ps.drop n) := by
  refine ⟨by rw [List.length_drop, List.length_drop, h.1], fun i p e => ?_⟩
  rw [List.getElem?_drop] at e ⊢
  exact h.2 _ p e
theorem _root_.GP.Prs.reverse {H : Hp} {us : List V} {ps : List (Int × Int)} (h : Prs H us ps) : Prs H us.reverse ps.reverse := by
  refine ⟨by rw [List.length_reverse, List.length_reverse, h.1], fun i p e => ?_⟩
  have hi : i < ps.length := by
    have z := (List.getElem?_eq_some_iff.mp e).1
    rwa [List.length_reverse] at z
  rw [List.getElem?_reverse hi] at e
  rw [List.getElem?_reverse (by rw [h.1]; exact hi), h.1]
  exact h.2 _ p e

/-! ### set_of -/
/-- the pair that a tracked tuple holds -/
def pairOf (H : Hp) : V → Int × Int
  | .ref t => (match H t with
    | some (.tup [.int i, .int j]) => (i, j)
    | _ => (0, 0))
  | _ => (0, 0)
theorem pairOf_at {H : Hp} {t : Addr} {p : Int × Int} (e : H t = some (.tup [.int p.1, .int p.2])) : pairOf H (.ref t) = p := by
  show (match H t with | some (.tup [.int i, .int j]) => (i, j) | _ => (0, 0)) = p
  rw [e]
abbrev sSetOf : Stmt := topS 1
theorem scSetOf : FnScope ["pairs", "merged", "first", "last", "low", "high", "pair"] ["pairs"] (defScope sSetOf) := ⟨rfl, rfl, rfl, by decide +kernel, rfl, by decide +kernel, by decide +kernel⟩
def spSetOf (K : PySem.W.Frag) : Sp := fun vs H Q _ => ∃ (a : Addr) (us : List V) (ps : List (Int × Int)), vs = [.ref a] ∧ Sq K H a us ∧ Prs H us ps ∧ ps.length ≤ 900 ∧
  ∀ (l : Addr) (ws : List V) (rs : List (Int × Int)) H', H l = none → H' l = some (.lst ws) → Prs H' ws rs → SetLike ps rs → Same H H' → Q (.ref l) H'
section
variable {K : PySem.W.Frag} {mg : Str → Option Value} {P : Program} {w : World} {base : Heap}
theorem ok_setof {f : Addr} {fd : FuncData} {k : Nat} (F : Fun K "set_of" "set_of" sSetOf f fd) (mso : mg "sorted" = none) (mx : mg "max" = none) : FnOk P w K mg base CX0 (k + 1) f fd ["pairs"] (spSetOf K) := by
  refine F.ok scSetOf (fun vs H Q E h => ?_) (fun cdv A outer s H vs Q E hr h => ?_)
  · obtain ⟨a, us, ps, rfl, _⟩ := h
    rfl
  · obtain ⟨a, us, ps, rfl, hq, hp, hz, q⟩ := h
    refine ⟨_, pss_cons (ps_set (i := 1) scSetOf.nd rfl (.inl rfl) (pe_lst pa_nil))
      (pss_cons (ps_for PassesOwn.never rfl (pi_list (pe_callB cr_sortedPO (by rfl) mso (by decide +kernel) (pa_cons (pe_lc (own := [("pair", 6)]) (g := gName 6) (tt := tTest (tOp (rI0 fun i j => .bl (decide (i ≤ j))) (tOp (rIxT K) (tVar 6) (tC (.int 0))) (tOp (rIxT K) (tVar 6) (tC (.int 1))))) rfl scSetOf.nd (pi_seq (pv 0))
          (blkOk_by (own := [("pair", 6)]) (N := ["pairs", "merged", "first", "last", "low", "high", "pair"]) (sc := defScope sSetOf) (by decide +kernel))
          (fun _ _ _ _ _ => pg_name (i := 6) scSetOf.nd rfl (.inl rfl)) (fun _ _ _ _ _ => pts_one (pt_cmpR op_le (pe_ix ix_tup (pv 6) pe_int (fun _ _ => rfl)) (pe_ix ix_tup (pv 6) pe_int (fun _ _ => rfl)) (nomark _))) (fun _ _ _ _ _ => pv 6)) pa_nil)))
        (pg_tup rfl (pgs_cons (pg_name (i := 2) scSetOf.nd rfl (.inl rfl)) (pgs_cons (pg_name (i := 3) scSetOf.nd rfl (.inl rfl)) pgs_nil)))
        (pss_one (ps_if (PW.pt (pw_and (pt_truth (pv 1) (by intro _; rfl)) (pw_and1 (pt_cmpR op_le (pv 2) (pe_op op_add (pe_ix ix_tup (pe_ix ix_list (pv 1) (pe_un un_neg pe_int) (fun _ _ => rfl)) pe_int (fun _ _ => rfl)) pe_int) (nomark _)))))
          (pss_cons (ps_asg (pe_ix ix_list (pv 1) (pe_un un_neg pe_int) (fun _ _ => rfl)) (pg_tup rfl (pgs_cons (pg_name (i := 4) scSetOf.nd rfl (.inl rfl)) (pgs_cons (pg_name (i := 5) scSetOf.nd rfl (.inl rfl)) pgs_nil))))
          (pss_one (ps_asg (pe_tup (pa_cons (pv 4) (pa_cons (pe_callB (call_max2 rfl) (by rfl) mx (by decide +kernel) (pa_cons (pv 5) (pa_cons (pv 3) pa_nil))) pa_nil))) (pg_sub (pv 1) (pe_un un_neg pe_int) set_list))))
          (pss_one (ps_expr (pe_bm PySem.F.plainAttrs_list PySem.F.slot_list_append PySem.F.type_list_append mt_append (pv 1) (pa_cons (pe_tup (pa_cons (pv 2) (pa_cons (pv 3) pa_nil))) pa_nil)))))))
      (pss_one (ps_ret (pv 1)))), ?_⟩
    -- merged = []
    refine ⟨Nat.zero_le _, fun mg' nm => ?_⟩
    have s1 := same_upd (o := .lst []) nm
    have em1 : upd H mg' (.lst []) mg' = some (.lst []) := upd_same
    revert s1 em1
    generalize upd H mg' (.lst []) = H1
    intro s1 em1
    -- [pair for pair in pairs if ..]
    refine ⟨.ref a, rfl, a, rfl, lc_seq (xs := us) (hq.same s1) (fun D i H' => Same H1 H' ∧ ∃ ys, H' D = some (.lst ys) ∧ Prs H' ys ((ps.take i).filter fun p => decide (p.1 ≤ p.2)) ∧ ys.length ≤ i) (fun D nD => ⟨same_upd nD, [], upd_same, Prs.nil, Nat.le_refl _⟩)
      (fun D i H' nD hP => SqTo.same hP.1) (fun D i x H' nD hx hP => ?_) (fun D H2 nD hP => ?_)⟩
    · obtain ⟨sm, ys, eD, hys, hyl⟩ := hP
      obtain ⟨p, T, ep, rfl, eT⟩ := prs_at hp hx
      have hi : i < us.length := (List.getElem?_eq_some_iff.mp hx).1
      rw [hp.1] at hi
      have eT' := sm _ _ (s1 _ _ eT)
      refine ⟨rfl, _, rfl, T, _, 0, .int p.1, rfl, rfl, .inl (.inl eT'), atI_nat (j := 0) rfl, _, rfl, T, _, 1, .int p.2, rfl, rfl, .inl (.inl eT'), atI_nat (j := 1) rfl, p.1, p.2, rfl, rfl, _, rfl, ?_⟩
      have etake : (ps.take (i + 1)).filter (fun p => decide (p.1 ≤ p.2)) = (ps.take i).filter (fun p => decide (p.1 ≤ p.2)) ++ (if p.1 ≤ p.2 then [p] else []) := by
        rw [List.take_add_one, ep, List.filter_append]
        by_cases c : p.1 ≤ p.2
        · rw [if_pos c]; simp [c]
        · rw [if_neg c]; simp [c]
      refine ite2 (fun c => ?_) (fun c => ?_)
      · have c' := of_decide_eq_true c
        refine ⟨_, rfl, ys, eD, small1000 (by omega), fun b o e => ?_, _, upd_same, ?_, by rw [List.length_append]; show ys.length + 1 ≤ i + 1; omega⟩
        · rw [upd_ne (ne_of_none e nD)]
          exact sm b o e
        · rw [etake, if_pos c']
          exact (hys.snoc eT').upd_lst eD
      · have c' : ¬ p.1 ≤ p.2 := fun z => c (decide_eq_true z)
        refine ⟨sm, ys, eD, ?_, by omega⟩
        rw [etake, if_neg c', List.append_nil]
        exact hys
    · -- sorted
      obtain ⟨sm, ys, eD, hys, hyl⟩ := hP
      rw [hp.1, List.take_length] at hys
      refine ⟨D, ys, pairOf H2, rfl, SqL.of eD, fun x hx => ?_, fun zs g srt stb ng => ?_⟩
      · obtain ⟨i, hi, e⟩ := List.getElem_of_mem hx
        obtain ⟨p, T, _, rfl, eT⟩ := prs_at hys (by rw [List.getElem?_eq_getElem hi, e])
        exact ⟨T, rfl, by rw [pairOf_at eT]; exact eT⟩
      have sg := same_upd (o := .lst zs) ng
      have eg : upd H2 g (.lst zs) g = some (.lst zs) := upd_same
      have s3 : Same H (upd H2 g (.lst zs)) := (s1.trans sm).trans sg
      have em3 := sg _ _ (sm _ _ em1)
      -- the pairs of zs
      have each : ∀ x ∈ zs, ∃ T, x = .ref T ∧ H2 T = some (.tup [.int (pairOf H2 x).1, .int (pairOf H2 x).2]) := fun x hx => by
        obtain ⟨i, hi, e⟩ := List.getElem_of_mem (stb.perm.mem_iff.mp hx)
        obtain ⟨p, T, _, rfl, eT⟩ := prs_at hys (by rw [List.getElem?_eq_getElem hi, e])
        exact ⟨T, rfl, by rw [pairOf_at eT]; exact eT⟩
      have hzs : Prs H2 zs (zs.map (pairOf H2)) := ⟨by rw [List.length_map], fun i p e => by
        rw [List.getElem?_map] at e
        cases h : zs[i]? with
        | none => rw [h] at e; cases e
        | some x =>
          rw [h] at e
          cases e
          obtain ⟨T, rfl, eT⟩ := each x (List.mem_of_getElem? h)
          exact ⟨T, rfl, eT⟩⟩
      have hmap : ys.map (pairOf H2) = ps.filter fun p => decide (p.1 ≤ p.2) := by
        refine List.ext_getElem? fun i => ?_
        rw [List.getElem?_map]
        cases h : ys[i]? with
        | none =>
          have : (ps.filter fun p => decide (p.1 ≤ p.2))[i]? = none := by
            rw [List.getElem?_eq_none_iff] at h ⊢
            rw [← hys.1]
            exact h
          rw [this]
          rfl
        | some x =>
          obtain ⟨p, T, ep, rfl, eT⟩ := prs_at hys h
          rw [ep]
          show some (pairOf H2 (.ref T)) = some p
          rw [pairOf_at eT]
      have hperm : (zs.map (pairOf H2)).Perm (ps.filter fun p => decide (p.1 ≤ p.2)) := hmap ▸ stb.perm.map (pairOf H2)
      have hle : ∀ p ∈ zs.map (pairOf H2), p.1 ≤ p.2 := fun p hp' => by
        have := hperm.mem_iff.mp hp'
        exact of_decide_eq_true (List.mem_filter.mp this).2
      have hord : (zs.map (pairOf H2)).Pairwise fun x y => x.1 ≤ y.1 := by
        rw [List.pairwise_map]
        refine srt.imp fun {x y} h => ?_
        have := SrtO.lexB_no.mp h
        omega
      have hzl : zs.length ≤ 900 := by
        rw [stb.perm.length_eq, hys.1]
        exact Nat.le_trans (List.length_filter_le _ _) hz
      revert hzs hperm hle hord
      generalize zs.map (pairOf H2) = qs
      intro hzs hperm hle hord
      have hzs3 := hzs.same sg
      revert eg s3 em3 hzs3
      generalize upd H2 g (.lst zs) = H3
      intro eg s3 em3 hzs3
      have ngH : H g = none := (s1.trans sm).free ng
      have nmg : mg' ≠ g := ne_of_none (sm _ _ em1) ng
      -- the merging
      refine ⟨g, rfl, ⟨_, SqL.of eg⟩, for_list (xs := zs) (fun i σ H4 => ∃ (ms : List V) (rs : List (Int × Int)) (y2 y3 y4 y5 y6 : Option V), σ = [some (.ref a), some (.ref mg'), y2, y3, y4, y5, y6] ∧ Same H H4 ∧ H4 g = some (.lst zs) ∧ Prs H4 zs qs ∧ H4 mg' = some (.lst ms) ∧ Prs H4 ms rs ∧ Mrg (qs.take i) rs)
        ⟨[], [], _, _, _, _, _, rfl, s3, eg, hzs3, em3, Prs.nil, Mrg.nil⟩ (fun i σ H4 _ hP => ?_) (fun i x σ H4 hx hP => ?_) (fun σ H4 hP => ?_)⟩
      · obtain ⟨_, _, _, _, _, _, _, rfl, _, e, _⟩ := hP
        exact SqL.of e
      · obtain ⟨ms, rs, y2, y3, y4, y5, y6, rfl, sm4, eg4, hz4, em4, hms, m⟩ := hP
        obtain ⟨p, T, ep, rfl, eT⟩ := prs_at hz4 hx
        have hi : i < qs.length := (List.getElem?_eq_some_iff.mp ep).1
        have hp12 : p.1 ≤ p.2 := hle p (List.mem_of_getElem? ep)
        have ord : ∀ q ∈ qs.take i, q.1 ≤ p.1 := fun q hq' => by
          obtain ⟨j, hj, e⟩ := List.getElem_of_mem hq'
          rw [List.length_take] at hj
          rw [List.getElem_take] at e
          obtain ⟨_, e2⟩ := List.getElem?_eq_some_iff.mp ep
          rw [← e, ← e2]
          exact List.pairwise_iff_getElem.mp hord j i (by omega) hi (by omega)
        have etake : qs.take (i + 1) = qs.take i ++ [p] := by rw [List.take_add_one, ep]; rfl
        have hmsl : ms.length ≤ 900 := by
          have := m.len
          rw [List.length_take] at this
          have := hzs.1
          rw [hms.1]
          omega
        refine ⟨T, _, rfl, .inl (.inl eT), rfl, _, _, rfl, _, _, rfl, rfl, ?_⟩
        -- what a new tuple and a change of merged leave
        have grow : ∀ (T2 : Addr) (p2 : Int × Int) (ms2 : List V) (rs2 : List (Int × Int)), H4 T2 = none → Prs (upd H4 T2 (.tup [.int p2.1, .int p2.2])) ms2 rs2 →
            Same H (upd (upd H4 T2 (.tup [.int p2.1, .int p2.2])) mg' (.lst ms2)) ∧ upd (upd H4 T2 (.tup [.int p2.1, .int p2.2])) mg' (.lst ms2) g = some (.lst zs) ∧ Prs (upd (upd H4 T2 (.tup [.int p2.1, .int p2.2])) mg' (.lst ms2)) zs qs ∧ upd (upd H4 T2 (.tup [.int p2.1, .int p2.2])) mg' (.lst ms2) mg' = some (.lst ms2) ∧ Prs (upd (upd H4 T2 (.tup [.int p2.1, .int p2.2])) mg' (.lst ms2)) ms2 rs2 := by
          intro T2 p2 ms2 rs2 n2 h2
          have st := same_upd (o := .tup [.int p2.1, .int p2.2]) n2
          have em5 := st _ _ em4
          refine ⟨fun b o e => ?_, ?_, (hz4.same st).upd_lst em5, upd_same, h2.upd_lst em5⟩
          · rw [upd_ne (ne_of_none e nm)]
            exact st _ _ (sm4 _ _ e)
          · rw [upd_ne nmg.symm]
            exact st _ _ eg4
        -- append
        have app : (∀ r ∈ rs, r.2 + 2 ≤ p.1) → (tDrop (tBM K "list" rAppend (tVar 1) (tCons (tTup (tCons (tVar 2) (tCons (tVar 3) tNil))) tNil))) { nx := fun σ H4 => ∃ (ms : List V) (rs : List (Int × Int)) (y2 y3 y4 y5 y6 : Option V), σ = [some (.ref a), some (.ref mg'), y2, y3, y4, y5, y6] ∧ Same H H4 ∧ H4 g = some (.lst zs) ∧ Prs H4 zs qs ∧ H4 mg' = some (.lst ms) ∧ Prs H4 ms rs ∧ Mrg (qs.take (i + 1)) rs, rt := fun _ _ => False } [some (.ref a), some (.ref mg'), some (.int p.1), some (.int p.2), y4, y5, y6] H4 := by
          intro far
          refine ⟨.ref mg', rfl, .inl ⟨rfl, _, SqL.of em4⟩, _, rfl, _, rfl, (by show 2 ≤ sizeLine; decide), fun T2 n2 => ?_⟩
          have st := same_upd (o := .tup [.int p.1, .int p.2]) n2
          refine ⟨mg', _, _, rfl, rfl, st _ _ em4, small1000 (by omega), ?_⟩
          obtain ⟨g1, g2, g3, g4, g5⟩ := grow T2 p (ms ++ [.ref T2]) (rs ++ [p]) n2 ((hms.same st).snoc upd_same)
          exact ⟨_, _, _, _, _, _, _, rfl, g1, g2, g3, g4, g5, by rw [etake]; exact m.new hp12 ord far⟩
        rcases snoc_cases rs with e0 | ⟨rs', ⟨lo, hi'⟩, e0⟩
        · have e1 : ms = [] := List.eq_nil_of_length_eq_zero (by rw [hms.1, e0]; rfl)
          have em0 : H4 mg' = some (.lst []) := by rw [em4, e1]
          refine ⟨.ref mg', rfl, false, .inl ⟨[], SqL.of em0, rfl⟩, iteF (iteF ?_)⟩
          exact app (by rw [e0]; exact fun _ z => nomatch z)
        · subst e0
          obtain ⟨ms', T0, rfl, eT0, hms'⟩ := hms.last
          refine ⟨.ref mg', rfl, true, .inl ⟨_, SqL.of em4, by simp⟩, iteT ?_⟩
          refine ⟨_, rfl, .ref mg', rfl, 1, rfl, mg', _, -1, .ref T0, rfl, rfl, SqL.of em4, atI_last _ _, T0, _, 1, .int hi', rfl, rfl, .inl (.inl eT0), atI_nat (j := 1) rfl, hi', 1, rfl, rfl, p.1, _, rfl, rfl, _, rfl, ite2 (fun c => ?_) (fun c => ?_)⟩
          · have c' := of_decide_eq_true c
            refine ⟨.ref mg', rfl, 1, rfl, mg', _, -1, .ref T0, rfl, rfl, SqL.of em4, atI_last _ _, T0, _, rfl, .inl (.inl eT0), rfl, _, _, rfl, _, _, rfl, rfl, ?_⟩
            refine ⟨_, rfl, _, rfl, _, rfl, hi', p.2, rfl, (by show 2 ≤ sizeLine; decide), fun T2 n2 => ?_⟩
            have st := same_upd (o := .tup [.int lo, .int (if p.2 > hi' then p.2 else hi')]) n2
            have ei : ixN (ms' ++ [V.ref T0]).length (-1) = some ms'.length := by
              unfold ixN
              rw [if_neg (by decide), List.length_append, if_pos (by show -((ms'.length + 1 : Nat) : Int) ≤ -1; omega)]
              show some ((-1 : Int) + ((ms'.length + 1 : Nat) : Int)).toNat = _
              congr 1
              omega
            refine ⟨.ref mg', rfl, 1, rfl, mg', _, -1, ms'.length, rfl, rfl, st _ _ em4, ei, ?_⟩
            have es : (ms' ++ [V.ref T0]).set ms'.length (.ref T2) = ms' ++ [.ref T2] := by simp
            rw [es]
            obtain ⟨g1, g2, g3, g4, g5⟩ := grow T2 (lo, if p.2 > hi' then p.2 else hi') (ms' ++ [.ref T2]) (rs' ++ [(lo, if p.2 > hi' then p.2 else hi')]) n2 ((hms'.same st).snoc upd_same)
            exact ⟨_, _, _, _, _, _, _, rfl, g1, g2, g3, g4, g5, by rw [etake]; exact m.join hp12 ord c'⟩
          · have c' : ¬ p.1 ≤ hi' + 1 := fun z => c (decide_eq_true z)
            refine app fun r hr' => ?_
            obtain ⟨lo', hR⟩ := m.ris
            obtain ⟨_, h2, _, h4⟩ := Ris.front hR
            have h4' : lo ≤ hi' := h4
            rcases List.mem_append.mp hr' with y | y
            · have : r.2 + 2 ≤ lo := h2 r y
              omega
            · rw [List.mem_singleton.mp y]
              show hi' + 2 ≤ p.1
              omega
      · obtain ⟨ms, rs, y2, y3, y4, y5, y6, rfl, sm4, eg4, hz4, em4, hms, m⟩ := hP
        rw [hzs.1, List.take_length] at m
        refine ⟨_, rfl, q mg' ms rs H4 nm em4 hms ⟨m.ris, m.same.trans fun n => ?_, Nat.le_trans m.len (Nat.le_trans (Nat.le_of_eq hperm.length_eq) (List.length_filter_le _ _))⟩ sm4⟩
        constructor
        · rintro ⟨r, hr', e⟩
          exact ⟨r, (List.mem_filter.mp (hperm.mem_iff.mp hr')).1, e⟩
        · rintro ⟨r, hr', e⟩
          exact ⟨r, hperm.mem_iff.mpr (List.mem_filter.mpr ⟨hr', decide_eq_true (by omega)⟩), e⟩
end

def RetS (H : Hp) (pr : Int → Prop) (m : Nat) (Q : V → Hp → Prop) : Prop := ∀ (l : Addr) (ws : List V) (rs : List (Int × Int)) H', H l = none → H' l = some (.lst ws) → Prs H' ws rs → Told pr rs → rs.length ≤ m → Same H H' → Q (.ref l) H'

/-! ### what stands where: pairs in a list or a tuple -/
def PrA (K : PySem.W.Frag) (H : Hp) (a : Addr) (ps : List (Int × Int)) : Prop := ∃ us, Sq K H a us ∧ Prs H us ps
def LsA (H : Hp) (a : Addr) (ps : List (Int × Int)) : Prop := ∃ us, H a = some (.lst us) ∧ Prs H us ps
theorem LsA.pr {K : PySem.W.Frag} {H : Hp} {a : Addr} {ps : List (Int × Int)} (h : LsA H a ps) : PrA K H a ps := let ⟨us, e, p⟩ := h; ⟨us, Sq.list e, p⟩
theorem LsA.same {H H' : Hp} {a : Addr} {ps : List (Int × Int)} (h : LsA H a ps) (s : Same H H') : LsA H' a ps := let ⟨us, e, p⟩ := h; ⟨us, s _ _ e, p.same s⟩
theorem PrA.same {K : PySem.W.Frag} {H H' : Hp} {a : Addr} {ps : List (Int × Int)} (h : PrA K H a ps) (s : Same H H') : PrA K H' a ps := let ⟨us, e, p⟩ := h; ⟨us, e.same s, p.same s⟩
theorem LsA.nil {H : Hp} {a : Addr} (e : H a = some (.lst [])) : LsA H a [] := ⟨[], e, Prs.nil⟩
theorem LsA.dp {K : PySem.W.Frag} {H : Hp} {a : Addr} {ps : List (Int × Int)} (h : LsA H a ps) : Dp K H (.ref a) (.list (ps.map pairD)) := let ⟨_, e, p⟩ := h; .lst (SqL.of e) (dp_prs p)
/-- a told set: a new list -/
def TellS (pr : Int → Prop) (m : Nat) (H : Hp) (Q : VK) : Prop := ∀ l rs H', H l = none → LsA H' l rs → Told pr rs → rs.length ≤ m → Same H H' → Q (.ref l) H'
/-! ### both_of -/
abbrev sBoth : Stmt := topS 2
theorem scBoth : FnScope ["one", "other", "shared", "at", "to", "first", "last"] ["one", "other"] (defScope sBoth) := ⟨rfl, rfl, rfl, by decide +kernel, rfl, by decide +kernel, by decide +kernel⟩
def spBoth (K : PySem.W.Frag) : Sp := fun vs H Q _ => ∃ (a b : Addr) (ps qs : List (Int × Int)), vs = [.ref a, .ref b] ∧ PrA K H a ps ∧ PrA K H b qs ∧ (∃ lo, Ris lo ps) ∧ (∃ lo, Ris lo qs) ∧ ps.length + qs.length ≤ 900 ∧ TellS (fun n => InS ps n ∧ InS qs n) (ps.length + qs.length) H Q
/-- between two turns -/
def BothW (H : Hp) (a b sh : Addr) (ps qs : List (Int × Int)) (m : Nat) (σ : L2.St) (H1 : Hp) : Prop := ∃ (i j : Nat) (ms : List V) (rs : List (Int × Int)) (y5 y6 : Option V), σ = [some (.ref a), some (.ref b), some (.ref sh), some (.int i), some (.int j), y5, y6] ∧ m = (ps.length - i) + (qs.length - j) ∧ i ≤ ps.length ∧ j ≤ qs.length ∧ Same H H1 ∧
  H1 sh = some (.lst ms) ∧ Prs H1 ms rs ∧ rs.length ≤ i + j ∧ rs ++ bothF (ps.drop i) (qs.drop j) = bothF ps qs
section
variable {K : PySem.W.Frag} {mg : Str → Option Value} {P : Program} {w : World} {base : Heap}
theorem ok_both {f : Addr} {fd : FuncData} {k : Nat} (F : Fun K "both_of" "both_of" sBoth f fd) (ml : mg "len" = none) (mx : mg "max" = none) (mn : mg "min" = none) : FnOk P w K mg base CX0 (k + 1) f fd ["one", "other"] (spBoth K) := by
  refine F.ok scBoth (fun vs H Q E h => ?_) (fun cdv A outer s H vs Q E hr h => ?_)
  · obtain ⟨a, b, ps, qs, rfl, _⟩ := h
    rfl
  · obtain ⟨a, b, ps, qs, rfl, ⟨us, ha, hps⟩, ⟨ws, hb, hqs⟩, ⟨lo, hr1⟩, ⟨lo', hr2⟩, hz, q⟩ := h
    refine ⟨_, pss_cons (ps_set (i := 2) scBoth.nd rfl (.inl rfl) (pe_lst pa_nil))
      (pss_cons (ps_set (i := 3) scBoth.nd rfl (.inl rfl) pe_int)
      (pss_cons (ps_set (i := 4) scBoth.nd rfl (.inl rfl) pe_int)
      (pss_cons (ps_while PassesOwn.never (PW.pt (pw_and (pt_cmpR op_lt (pv 3) (pe_callB call_len_seq (by rfl) ml PySem.boot_len (pa_cons (pv 0) pa_nil)) (nomark _)) (pw_and1 (pt_cmpR op_lt (pv 4) (pe_callB call_len_seq (by rfl) ml PySem.boot_len (pa_cons (pv 1) pa_nil)) (nomark _)))))
        (pss_cons (ps_set (i := 5) scBoth.nd rfl (.inl rfl) (pe_callB (call_max2 rfl) (by rfl) mx (by decide +kernel) (pa_cons (pe_ix ix_tup (pe_ix ix_seq (pv 0) (pv 3) (fun _ _ => rfl)) pe_int (fun _ _ => rfl)) (pa_cons (pe_ix ix_tup (pe_ix ix_seq (pv 1) (pv 4) (fun _ _ => rfl)) pe_int (fun _ _ => rfl)) pa_nil))))
        (pss_cons (ps_set (i := 6) scBoth.nd rfl (.inl rfl) (pe_callB (call_min2 rfl) (by rfl) mn (by decide +kernel) (pa_cons (pe_ix ix_tup (pe_ix ix_seq (pv 0) (pv 3) (fun _ _ => rfl)) pe_int (fun _ _ => rfl)) (pa_cons (pe_ix ix_tup (pe_ix ix_seq (pv 1) (pv 4) (fun _ _ => rfl)) pe_int (fun _ _ => rfl)) pa_nil))))
        (Evl.pss_cut (ps_if (pt_cmpR op_le (pv 5) (pv 6) (nomark _)) (pss_one (ps_expr (pe_bm PySem.F.plainAttrs_list PySem.F.slot_list_append PySem.F.type_list_append mt_append (pv 2) (pa_cons (pe_tup (pa_cons (pv 5) (pa_cons (pv 6) pa_nil))) pa_nil)))) pss_nil)
        (pss_one (ps_if (pt_cmpR op_lt (pe_ix ix_tup (pe_ix ix_seq (pv 0) (pv 3) (fun _ _ => rfl)) pe_int (fun _ _ => rfl)) (pe_ix ix_tup (pe_ix ix_seq (pv 1) (pv 4) (fun _ _ => rfl)) pe_int (fun _ _ => rfl)) (nomark _))
          (pss_one (ps_aug (i := 3) scBoth.nd rfl (.inl rfl) pe_int ip_add)) (pss_one (ps_aug (i := 4) scBoth.nd rfl (.inl rfl) pe_int ip_add))))))))
      (pss_one (ps_ret (pv 2)))))), ?_⟩
    refine ⟨Nat.zero_le _, fun sh nsh => ?_⟩
    have s0 := same_upd (o := .lst []) nsh
    have hl1 := hps.1
    have hl2 := hqs.1
    refine ⟨BothW H a b sh ps qs, ⟨_, 0, 0, [], [], none, none, rfl, rfl, Nat.zero_le _, Nat.zero_le _, s0, upd_same, Prs.nil, Nat.le_refl _, rfl⟩, fun m σ H1 hW => ?_⟩
    obtain ⟨i, j, ms, rs, y5, y6, rfl, rfl, hi, hj, sm, esh, hms, hrl, hbo⟩ := hW
    have ha1 := ha.same sm
    have hb1 := hb.same sm
    -- the end: nothing is left of one
    have fin : bothF (ps.drop i) (qs.drop j) = [] → Q (.ref sh) H1 := by
      intro e
      rw [e, List.append_nil] at hbo
      subst hbo
      exact q sh (bothF ps qs) H1 nsh ⟨ms, esh, hms⟩ ⟨⟨lo, bothF_ris hr1 hr2 (.inl (Int.le_refl _))⟩, fun n => bothF_in hr1 hr2⟩ (by omega) sm
    refine ⟨_, rfl, _, rfl, a, us, rfl, ha1, (i : Int), (us.length : Int), rfl, rfl, _, rfl, ite2 (fun c1 => ?_) (fun c1 => ?_)⟩
    · have c1' := of_decide_eq_true c1
      refine ⟨_, rfl, _, rfl, b, ws, rfl, hb1, (j : Int), (ws.length : Int), rfl, rfl, _, rfl, ite2 (fun c2 => ?_) (fun c2 => ?_)⟩
      · have c2' := of_decide_eq_true c2
        have hi' : i < ps.length := by omega
        have hj' : j < qs.length := by omega
        obtain ⟨T1, g1, e1⟩ := hps.2 i ps[i] (List.getElem?_eq_getElem hi')
        obtain ⟨T2, g2, e2⟩ := hqs.2 j qs[j] (List.getElem?_eq_getElem hj')
        have ed1 := drop_at (List.getElem?_eq_getElem hi')
        have ed2 := drop_at (List.getElem?_eq_getElem hj')
        revert e1 e2 ed1 ed2
        generalize ps[i] = p
        generalize qs[j] = r
        intro e1 e2 ed1 ed2
        have f1 := sm _ _ e1
        have f2 := sm _ _ e2
        rw [ed1, ed2, bothF] at hbo
        refine ⟨fun σ' H' => ∃ m', m' < (ps.length - i) + (qs.length - j) ∧ BothW H a b sh ps qs m' σ' H', fun σ' H' h => h, ?_⟩
        -- first, last
        refine ⟨_, rfl, _, rfl, a, us, i, .ref T1, rfl, rfl, ha1, atI_nat g1, T1, _, 0, .int p.1, rfl, rfl, .inl (.inl f1), atI_nat (j := 0) rfl, _, rfl, _, rfl, b, ws, j, .ref T2, rfl, rfl, hb1, atI_nat g2, T2, _, 0, .int r.1, rfl, rfl, .inl (.inl f2), atI_nat (j := 0) rfl, p.1, r.1, rfl, ?_⟩
        refine ⟨_, rfl, _, rfl, a, us, i, .ref T1, rfl, rfl, ha1, atI_nat g1, T1, _, 1, .int p.2, rfl, rfl, .inl (.inl f1), atI_nat (j := 1) rfl, _, rfl, _, rfl, b, ws, j, .ref T2, rfl, rfl, hb1, atI_nat g2, T2, _, 1, .int r.2, rfl, rfl, .inl (.inl f2), atI_nat (j := 1) rfl, p.2, r.2, rfl, ?_⟩
        refine ⟨fun σ' H2 => ∃ ms2 rs2, σ' = [some (.ref a), some (.ref b), some (.ref sh), some (.int i), some (.int j), some (.int (mxI p.1 r.1)), some (.int (mnI p.2 r.2))] ∧ Same H H2 ∧ H2 sh = some (.lst ms2) ∧ Prs H2 ms2 rs2 ∧ rs2.length ≤ i + j + 1 ∧
          rs2 ++ (if p.2 < r.2 then bothF (ps.drop (i + 1)) (r :: qs.drop (j + 1)) else bothF (p :: ps.drop (i + 1)) (qs.drop (j + 1))) = bothF ps qs, ?_, fun σ' H2 hM => ?_⟩
        · refine ⟨_, rfl, _, rfl, mxI p.1 r.1, mnI p.2 r.2, rfl, rfl, _, rfl, ite2 (fun c => ?_) (fun c => ?_)⟩
          · have c' := of_decide_eq_true c
            rw [if_pos c', ← List.append_assoc] at hbo
            refine ⟨_, rfl, .inl ⟨rfl, _, SqL.of esh⟩, _, rfl, _, rfl, (by show 2 ≤ sizeLine; decide), fun T nT => ?_⟩
            have sT := same_upd (o := .tup [.int (mxI p.1 r.1), .int (mnI p.2 r.2)]) nT
            refine ⟨sh, _, _, rfl, rfl, sT _ _ esh, small1000 (by have := hms.1; omega), ?_⟩
            refine ⟨_, _, rfl, fun b o e => ?_, upd_same, ((hms.same sT).snoc upd_same).upd_lst (sT _ _ esh), by rw [List.length_append]; exact Nat.add_le_add_right hrl 1, hbo⟩
            rw [upd_ne (ne_of_none e nsh)]
            exact sT _ _ (sm b o e)
          · have c' : ¬ mxI p.1 r.1 ≤ mnI p.2 r.2 := fun z => c (decide_eq_true z)
            rw [if_neg c', List.nil_append] at hbo
            exact ⟨ms, rs, rfl, sm, esh, hms, by omega, hbo⟩
        · obtain ⟨ms2, rs2, rfl, sm2, esh2, hms2, hl3, hb3⟩ := hM
          have ha2 := ha.same sm2
          have hb2 := hb.same sm2
          have f1' := sm2 _ _ e1
          have f2' := sm2 _ _ e2
          refine ⟨_, rfl, _, rfl, a, us, i, .ref T1, rfl, rfl, ha2, atI_nat g1, T1, _, 1, .int p.2, rfl, rfl, .inl (.inl f1'), atI_nat (j := 1) rfl, _, rfl, _, rfl, b, ws, j, .ref T2, rfl, rfl, hb2, atI_nat g2, T2, _, 1, .int r.2, rfl, rfl, .inl (.inl f2'), atI_nat (j := 1) rfl, p.2, r.2, rfl, rfl, _, rfl, ite2 (fun c => ?_) (fun c => ?_)⟩
          · have c' := of_decide_eq_true c
            rw [if_pos c', ← ed2] at hb3
            exact ⟨_, rfl, (i : Int), 1, rfl, rfl, _, by omega, i + 1, j, ms2, rs2, _, _, rfl, rfl, by omega, hj, sm2, esh2, hms2, by omega, hb3⟩
          · have c' : ¬ p.2 < r.2 := fun z => c (decide_eq_true z)
            rw [if_neg c', ← ed1] at hb3
            exact ⟨_, rfl, (j : Int), 1, rfl, rfl, _, by omega, i, j + 1, ms2, rs2, _, _, rfl, rfl, hi, by omega, sm2, esh2, hms2, by omega, hb3⟩
      · have c' : ¬ (j : Int) < ws.length := fun z => c2 (decide_eq_true z)
        refine ⟨_, rfl, fin ?_⟩
        rw [List.drop_eq_nil_of_le (by omega : qs.length ≤ j)]
        exact bothF_nil _
    · have c' : ¬ (i : Int) < us.length := fun z => c1 (decide_eq_true z)
      refine ⟨_, rfl, fin ?_⟩
      rw [List.drop_eq_nil_of_le (by omega : ps.length ≤ i), bothF]
end
/-! ### gaps_of -/
abbrev sGaps : Stmt := topS 3
theorem scGaps : FnScope ["some", "begin", "end", "gaps", "start", "first", "last"] ["some", "begin", "end"] (defScope sGaps) := ⟨rfl, rfl, rfl, by decide +kernel, rfl, by decide +kernel, by decide +kernel⟩
def spGaps (K : PySem.W.Frag) : Sp := fun vs H Q _ => ∃ (a : Addr) (qs : List (Int × Int)) (x y : Int), vs = [.ref a, .int x, .int y] ∧ PrA K H a qs ∧ (∃ lo, Ris lo qs) ∧ qs.length ≤ 800 ∧ TellS (fun n => (x ≤ n ∧ n ≤ y) ∧ ¬ InS qs n) (qs.length + 1) H Q
section
variable {K : PySem.W.Frag} {mg : Str → Option Value} {P : Program} {w : World} {base : Heap}
theorem ok_gaps {f : Addr} {fd : FuncData} (F : Fun K "gaps_of" "gaps_of" sGaps f fd) (CO : Cal P w K mg base 1 "set_of" ["pairs"] (spSetOf K)) (mx : mg "max" = none) (mn : mg "min" = none) : FnOk P w K mg base CX0 2 f fd ["some", "begin", "end"] (spGaps K) := by
  refine F.ok scGaps (fun vs H Q E h => ?_) (fun cdv A outer s H vs Q E hr h => ?_)
  · obtain ⟨a, qs, x, y, rfl, _⟩ := h
    rfl
  · obtain ⟨a, qs, x, y, rfl, ⟨ws, hb, hqs⟩, ⟨lo, hr2⟩, hz, q⟩ := h
    refine ⟨_, pss_cons (ps_set (i := 3) scGaps.nd rfl (.inl rfl) (pe_lst pa_nil))
      (pss_cons (ps_set (i := 4) scGaps.nd rfl (.inl rfl) (pv 1))
      (pss_cons (ps_for PassesOwn.never rfl (pi_seq (pv 0)) (pg_tup rfl (pgs_cons (pg_name (i := 5) scGaps.nd rfl (.inl rfl)) (pgs_cons (pg_name (i := 6) scGaps.nd rfl (.inl rfl)) pgs_nil)))
        (pss_cons (ps_expr (pe_bm PySem.F.plainAttrs_list PySem.F.slot_list_append PySem.F.type_list_append mt_append (pv 3) (pa_cons (pe_tup (pa_cons (pv 4) (pa_cons (pe_callB (call_min2 rfl) (by rfl) mn (by decide +kernel) (pa_cons (pe_op op_sub (pv 5) pe_int) (pa_cons (pv 2) pa_nil))) pa_nil))) pa_nil)))
        (pss_one (ps_set (i := 4) scGaps.nd rfl (.inl rfl) (pe_callB (call_max2 rfl) (by rfl) mx (by decide +kernel) (pa_cons (pv 4) (pa_cons (pe_op op_add (pv 6) pe_int) pa_nil)))))))
      (pss_cons (ps_expr (pe_bm PySem.F.plainAttrs_list PySem.F.slot_list_append PySem.F.type_list_append mt_append (pv 3) (pa_cons (pe_tup (pa_cons (pv 4) (pa_cons (pv 2) pa_nil))) pa_nil)))
      (pss_one (ps_ret (pe_own CO hr (by rfl) (pa_cons (pv 3) pa_nil))))))), ?_⟩
    refine ⟨Nat.zero_le _, fun g ng => ?_⟩
    have s0 := same_upd (o := .lst []) ng
    have hl2 := hqs.1
    refine ⟨_, rfl, .ref a, rfl, a, rfl, for_seqS (xs := ws) hb s0 (fun i σ H1 => ∃ (st : Int) (ms : List V) (rs : List (Int × Int)) (y5 y6 : Option V), σ = [some (.ref a), some (.int x), some (.int y), some (.ref g), some (.int st), y5, y6] ∧ Same H H1 ∧ H1 g = some (.lst ms) ∧ Prs H1 ms rs ∧ rs.length = i ∧ rs ++ gapsF y st (qs.drop i) = gapsF y x qs)
      ⟨x, [], [], none, none, rfl, s0, upd_same, Prs.nil, rfl, rfl⟩ (fun i σ H1 hP => ?_) (fun i v σ H1 hv hP => ?_) (fun σ H1 hP => ?_)⟩
    · obtain ⟨_, _, _, _, _, rfl, sm, _⟩ := hP
      exact sm
    · obtain ⟨st, ms, rs, y5, y6, rfl, sm, eg, hms, hrl, hgf⟩ := hP
      obtain ⟨p, T, ep, rfl, eT⟩ := prs_at hqs hv
      have eT1 := sm _ _ eT
      have hi : i < qs.length := (List.getElem?_eq_some_iff.mp ep).1
      rw [drop_at ep, gapsF] at hgf
      refine ⟨T, _, rfl, .inl (.inl eT1), rfl, _, _, rfl, _, _, rfl, rfl, ?_⟩
      refine ⟨_, rfl, .inl ⟨rfl, _, SqL.of eg⟩, _, rfl, _, rfl, p.1, 1, rfl, rfl, _, rfl, p.1 - 1, y, rfl, (by show 2 ≤ sizeLine; decide), fun T2 n2 => ?_⟩
      have sT := same_upd (o := .tup [.int st, .int (mnI (p.1 - 1) y)]) n2
      refine ⟨g, _, _, rfl, rfl, sT _ _ eg, small1000 (by have := hms.1; omega), ?_⟩
      refine ⟨_, rfl, _, rfl, p.2, 1, rfl, rfl, st, p.2 + 1, rfl, mxI st (p.2 + 1), _, rs ++ [(st, mnI (p.1 - 1) y)], _, _, rfl, fun b o e => ?_, upd_same, ((hms.same sT).snoc upd_same).upd_lst (sT _ _ eg), by rw [List.length_append, hrl]; rfl, by rw [List.append_assoc]; exact hgf⟩
      rw [upd_ne (ne_of_none e ng)]
      exact sT _ _ (sm b o e)
    · obtain ⟨st, ms, rs, y5, y6, rfl, sm, eg, hms, hrl, hgf⟩ := hP
      rw [hl2, List.drop_length, gapsF] at hgf
      refine ⟨_, rfl, .inl ⟨rfl, _, SqL.of eg⟩, _, rfl, _, rfl, (by show 2 ≤ sizeLine; decide), fun T2 n2 => ?_⟩
      have sT := same_upd (o := .tup [.int st, .int y]) n2
      refine ⟨g, _, _, rfl, rfl, sT _ _ eg, small1000 (by have := hms.1; omega), ?_⟩
      have hp : Prs (upd (upd H1 T2 (.tup [.int st, .int y])) g (.lst (ms ++ [.ref T2]))) (ms ++ [.ref T2]) (gapsF y x qs) := by
        rw [← hgf]
        exact ((hms.same sT).snoc upd_same).upd_lst (sT _ _ eg)
      have s3 : Same H (upd (upd H1 T2 (.tup [.int st, .int y])) g (.lst (ms ++ [.ref T2]))) := fun b o e => by
        rw [upd_ne (ne_of_none e ng)]
        exact sT _ _ (sm b o e)
      refine ⟨_, rfl, g, _, _, rfl, Sq.list upd_same, hp, by rw [gapsF_length]; omega, fun l2 w2 rs2 H2 nl2 e2 hrs hset s2 => ?_⟩
      exact q l2 rs2 H2 (s3.free nl2) ⟨_, e2, hrs⟩ (hset.told.cong fun n => gapsF_in hr2) (by have := hset.len; rwa [gapsF_length] at this) (s3.trans s2)
end
/-! ### without -/
theorem Ris.upto : ∀ {lo n : Int} {ps : List (Int × Int)} {p : Int × Int}, Ris lo (ps ++ [p]) → InS (ps ++ [p]) n → n ≤ p.2 := by
  intro lo n ps p h e
  obtain ⟨h1, h2, h3, h4⟩ := Ris.front h
  rcases inS_append.mp e with z | z
  · obtain ⟨q, hq, z1, z2⟩ := z
    have := h2 q hq
    omega
  · rcases inS_cons.mp z with y | y
    · exact y.2
    · exact absurd y inS_nil
abbrev sWithout : Stmt := topS 4
theorem scWithout : FnScope ["one", "other"] ["one", "other"] (defScope sWithout) := ⟨rfl, rfl, rfl, by decide +kernel, rfl, by decide +kernel, by decide +kernel⟩
def spWithout (K : PySem.W.Frag) : Sp := fun vs H Q _ => ∃ (a b : Addr) (ps qs : List (Int × Int)), vs = [.ref a, .ref b] ∧ PrA K H a ps ∧ PrA K H b qs ∧ (∃ lo, Ris lo ps) ∧ (∃ lo, Ris lo qs) ∧ ps.length + qs.length ≤ 800 ∧ TellS (fun n => InS ps n ∧ ¬ InS qs n) (ps.length + qs.length + 1) H Q
section
variable {K : PySem.W.Frag} {mg : Str → Option Value} {P : Program} {w : World} {base : Heap}
theorem ok_without {f : Addr} {fd : FuncData} (F : Fun K "without" "without" sWithout f fd) (CA : Cal P w K mg base 1 "both_of" ["one", "other"] (spBoth K)) (CG : Cal P w K mg base 2 "gaps_of" ["some", "begin", "end"] (spGaps K)) : FnOk P w K mg base CX0 3 f fd ["one", "other"] (spWithout K) := by
  refine F.ok scWithout (fun vs H Q E h => ?_) (fun cdv A outer s H vs Q E hr h => ?_)
  · obtain ⟨a, b, ps, qs, rfl, _⟩ := h
    rfl
  · obtain ⟨a, b, ps, qs, rfl, ⟨us, ha, hps⟩, hb, ⟨lo, hr1⟩, hr2, hz, q⟩ := h
    have hr1' := hr.mono (show 1 ≤ 2 by decide)
    refine ⟨_, pss_cons (ps_if (pt_not (pt_truth (pv 0) (by intro _; rfl))) (pss_one (ps_ret (pe_lst pa_nil))) pss_nil)
      (pss_one (ps_ret (pe_own CA hr1' (by rfl) (pa_cons (pv 0) (pa_cons (pe_own CG hr (by rfl) (pa_cons (pv 1) (pa_cons (pe_ix ix_tup (pe_ix ix_seq (pv 0) pe_int (fun _ _ => rfl)) pe_int (fun _ _ => rfl)) (pa_cons (pe_ix ix_tup (pe_ix ix_seq (pv 0) (pe_un un_neg pe_int) (fun _ _ => rfl)) pe_int (fun _ _ => rfl)) pa_nil)))) pa_nil))))), ?_⟩
    have tru : ∀ k, k = (!us.isEmpty) → TruV K (.ref a) H k := fun k e => ha.elim (fun h => .inl ⟨us, h, e⟩) fun h => .inr (.inl ⟨us, h, e⟩)
    rcases snoc_cases ps with e0 | ⟨ps', p, e0⟩
    · have e1 : us = [] := List.eq_nil_of_length_eq_zero (by rw [hps.1, e0]; rfl)
      subst e0 e1
      refine ⟨_, rfl, false, tru _ rfl, iteT ?_⟩
      refine ⟨Nat.zero_le _, fun l nl => ?_⟩
      exact q l [] _ nl (LsA.nil upd_same) ⟨⟨0, True.intro⟩, fun n => ⟨fun z => absurd z inS_nil, fun z => z.1⟩⟩ (Nat.zero_le _) (same_upd nl)
    · subst e0
      obtain ⟨us', T0, eus, eT0, hus'⟩ := hps.last
      have hne : us.isEmpty = false := by rw [eus]; simp
      refine ⟨_, rfl, true, tru _ (by rw [hne]; rfl), iteF ?_⟩
      obtain ⟨p0, ep0⟩ : ∃ p0, (ps' ++ [p])[0]? = some p0 := by
        cases ps' with
        | nil => exact ⟨p, rfl⟩
        | cons x r => exact ⟨x, rfl⟩
      obtain ⟨T, g0, eT⟩ := hps.2 0 p0 ep0
      have glast : atI us (-1) = some (.ref T0) := by rw [eus]; exact atI_last _ _
      refine ⟨_, rfl, _, rfl, _, rfl, a, us, 0, .ref T, rfl, rfl, ha, atI_nat (j := 0) g0, T, _, 0, .int p0.1, rfl, rfl, .inl (.inl eT), atI_nat (j := 0) rfl, _, rfl, 1, rfl, a, us, -1, .ref T0, rfl, rfl, ha, glast, T0, _, 1, .int p.2, rfl, rfl, .inl (.inl eT0), atI_nat (j := 1) rfl, ?_⟩
      refine ⟨b, qs, p0.1, p.2, rfl, hb, hr2, by omega, fun l1 rs1 H1 n1 hl1 ht1 hz1 s1 => ?_⟩
      refine ⟨a, l1, ps' ++ [p], rs1, rfl, (PrA.same ⟨us, ha, hps⟩ s1), hl1.pr, ⟨lo, hr1⟩, ht1.ris, by omega, fun l2 rs2 H2 n2 hl2 ht2 hz2 s2 => ?_⟩
      refine q l2 rs2 H2 (s1.free n2) hl2 (ht2.cong fun n => ?_) (by omega) (s1.trans s2)
      rw [ht1.same n]
      constructor
      · exact fun z => ⟨z.1, z.2.2⟩
      · intro z
        refine ⟨z.1, ⟨?_, Ris.upto hr1 z.1⟩, z.2⟩
        have r0 : Ris p0.1 (ps' ++ [p]) := by
          cases ps' with
          | nil =>
            cases ep0
            exact ⟨Int.le_refl _, hr1.2⟩
          | cons x r =>
            cases ep0
            exact ⟨Int.le_refl _, hr1.2⟩
        exact r0.low z.1
end

/-! ### things as data, all of it tracked -/
inductive Dat (H : Hp) : V → PyData → Prop
  | non : Dat H .non .none
  | bl (b : Bool) : Dat H (.bl b) (.bool b)
  | int (i : Int) : Dat H (.int i) (.int i)
  | str (x : Str) : Dat H (.str x) (.str x)
  | lst {a : Addr} {xs : List V} {ds : List PyData} : H a = some (.lst xs) → xs.length = ds.length → (∀ (i : Nat) x d, xs[i]? = some x → ds[i]? = some d → Dat H x d) → Dat H (.ref a) (.list ds)
  | tup {a : Addr} {xs : List V} {ds : List PyData} : H a = some (.tup xs) → xs.length = ds.length → (∀ (i : Nat) x d, xs[i]? = some x → ds[i]? = some d → Dat H x d) → Dat H (.ref a) (.tuple ds)
theorem Dat.same {H H' : Hp} {v : V} {d : PyData} (h : Dat H v d) (s : Same H H') : Dat H' v d := by
  induction h with
  | non => exact .non
  | bl b => exact .bl b
  | int i => exact .int i
  | str x => exact .str x
  | lst e l _ ih => exact .lst (s _ _ e) l ih
  | tup e l _ ih => exact .tup (s _ _ e) l ih
/-- at most so deep, no longer than these lines -/
def Sm : Nat → PyData → Prop
  | _, .none => True
  | _, .bool _ => True
  | _, .int _ => True
  | _, .str _ => True
  | n + 1, .list ds => ds.length ≤ 900 ∧ ∀ d ∈ ds, Sm n d
  | n + 1, .tuple ds => ds.length ≤ 900 ∧ ∀ d ∈ ds, Sm n d
  | _, _ => False
/-- no list, no tuple -/
def Flat (d : PyData) : Prop := d = .none ∨ (∃ b, d = .bool b) ∨ (∃ i, d = .int i) ∨ ∃ x, d = .str x
theorem Sm.cases {n : Nat} {d : PyData} (h : Sm (n + 1) d) : Flat d ∨ (∃ ds, d = .list ds ∧ ds.length ≤ 900 ∧ ∀ d ∈ ds, Sm n d) ∨ ∃ ds, d = .tuple ds ∧ ds.length ≤ 900 ∧ ∀ d ∈ ds, Sm n d := by
  cases d <;> first | exact .inl (.inl rfl) | exact .inl (.inr (.inl ⟨_, rfl⟩)) | exact .inl (.inr (.inr (.inl ⟨_, rfl⟩))) | exact .inl (.inr (.inr (.inr ⟨_, rfl⟩))) | exact .inr (.inl ⟨_, rfl, h.1, h.2⟩) | exact .inr (.inr ⟨_, rfl, h.1, h.2⟩) | exact h.elim
theorem Sm.flat {d : PyData} (h : Sm 0 d) : Flat d := by
  cases d <;> first | exact .inl rfl | exact .inr (.inl ⟨_, rfl⟩) | exact .inr (.inr (.inl ⟨_, rfl⟩)) | exact .inr (.inr (.inr ⟨_, rfl⟩)) | exact h.elim
theorem walk_zipTs {K : PySem.W.Frag} {a b : Addr} {xs ys : List V} {n : Nat} (h1 : xs.length = n) (h2 : ys.length = n) : Walk (RZ.ItzT K a b) n (fun H => SqT K H a xs ∧ SqT K H b ys) (YPair (fun i => xs[i]?) (fun i => ys[i]?)) where
  goes := fun i _ lt q => ⟨xs, ys, _, _, q.1, q.2, List.getElem?_eq_getElem (h1.symm ▸ lt), List.getElem?_eq_getElem (h2.symm ▸ lt)⟩
  stops := fun _ q => ⟨xs, ys, q.1, q.2, .inl (Nat.le_of_eq h1)⟩
  yields := fun i _ _ _ _ q ⟨T, x, z, e1, e2, e3, e4, e5⟩ => ⟨T, x, z, e1, e2, e3, e4 xs q.1, e5 ys q.2⟩
theorem prs_dat {H : Hp} {us : List V} {ps : List (Int × Int)} (h : Prs H us ps) : ∀ (i : Nat) x d, us[i]? = some x → (ps.map pairD)[i]? = some d → Dat H x d := fun i x d e1 e2 => by
  obtain ⟨p, a, ep, rfl, ea⟩ := prs_at h e1
  rw [List.getElem?_map, ep] at e2
  have ed : pairD p = d := Option.some.inj e2
  rw [← ed]
  refine .tup ea rfl fun j y d f1 f2 => ?_
  have hj : j < 2 := (List.getElem?_eq_some_iff.mp f1).1
  have : j = 0 ∨ j = 1 := by omega
  rcases this with rfl | rfl
  · cases f1; cases f2; exact .int _
  · cases f1; cases f2; exact .int _
theorem sm_prs {ps : List (Int × Int)} (h : ps.length ≤ 900) : Sm 2 (.list (ps.map pairD)) := by
  refine ⟨by rw [List.length_map]; exact h, fun d hd => ?_⟩
  obtain ⟨p, _, rfl⟩ := List.mem_map.mp hd
  exact ⟨by show 2 ≤ 900; decide, fun d hd => by
    rcases List.mem_cons.mp hd with e | e
    · rw [e]; trivial
    · rw [List.mem_singleton.mp e]; trivial⟩
theorem ints_dat {H : Hp} {a : Addr} {ns : List Int} (e : H a = some (.lst (ns.map V.int))) : Dat H (.ref a) (.list (ns.map PyData.int)) := .lst e (by rw [List.length_map, List.length_map]) fun i x d e1 e2 => by
  rw [List.getElem?_map] at e1 e2
  cases h : ns[i]? with
  | none => rw [h] at e1; cases e1
  | some n =>
    rw [h] at e1 e2
    cases e1
    cases e2
    exact .int n
theorem sm_ints {ns : List Int} (h : ns.length ≤ 900) : Sm 1 (.list (ns.map PyData.int)) := by
  refine ⟨by rw [List.length_map]; exact h, fun d hd => ?_⟩
  obtain ⟨p, _, rfl⟩ := List.mem_map.mp hd
  trivial

def SqH (H : Hp) (a : Addr) (xs : List V) : Prop := H a = some (.lst xs) ∨ H a = some (.tup xs)

/-! ### defs that are called while nothing is being shown: str of lists within lists -/
/-- a def keeps its promise where nothing is being shown -/
structure FnG (P : Program) (w : World) (K : PySem.W.Frag) (mg : Str → Option Value) (base : Heap) (CX : CXT) (k : Nat) (f : Addr) (fd : FuncData) (ps : List Str) (sp : Sp) : Prop where
  len : ∀ (vs : List V) (H : Hp) (Q : VK) (E : XK), sp vs H Q E → vs.length = ps.length
  run : ∀ (A : Around) (outer : List Env) (s : Shared) (H : Hp) (args : Args) (us : List Value) (vs : List V) (Q : VK) (E : XK), A.guards = some [] → Room k A → Env0 P w K mg base A outer s H → BindsTo s fd args (ps.zip us) → Vals vs us → sp vs H Q E → codeAny (model P w) A (Code.call (Value.ref f) args) (CR CX outer P w H s Q E) s
section
variable {CX : CXT} {P : Program} {w : World} {K : PySem.W.Frag} {mg : Str → Option Value} {base : Heap} {k : Nat}
theorem FnG.of {f : Addr} {fd : FuncData} {ps : List Str} {sp : Sp} (F : FnOk P w K mg base CX k f fd ps sp) : FnG P w K mg base CX k f fd ps sp :=
  ⟨F.len, fun A outer s H args us vs Q E _ hr e0 hb r hsp => F.run A outer s H args us vs Q E hr e0 hb r hsp⟩
theorem fn_ofG {f : Addr} {name qual : Str} {params : Arguments} {body : List Stmt} {scope : Scope} {dV kV doc pm cdv ct oc : Value} {an od : Option Addr} {osl : Array (Option Value)} {N ps : List Str} {sp : Sp}
    (lk : List.lookup f K = some { cls := oc, dict := od, data := Data.func (PySem.W.fnOf name qual params body scope dV kV doc pm an cdv ct), slots := osl }) (hcd : PySem.W.codeIn K cdv qual = true) (S : FnScope N ps scope)
    (len : ∀ (vs : List V) (H : Hp) (Q : VK) (E : XK), sp vs H Q E → vs.length = ps.length)
    (hbody : ∀ (A : Around) (outer : List Env) (s : Shared) (H : Hp) (vs : List V) (Q : VK) (E : XK), A.guards = some [] → Room k (A.deeper (PyProof.Rows.envOfC qual scope s.heap.objs.size f cdv)) → sp vs H Q E →
      ∃ t, PSs (cxOf CX P w K mg base N qual scope f cdv A outer s H E) body t ∧ t { nx := fun _ H' => Q V.non H', rt := Q } (L2.start N vs) H) :
    FnG P w K mg base CX (k + 1) f (PySem.W.fnOf name qual params body scope dV kV doc pm an cdv ct) ps sp := by
  refine ⟨len, fun A outer s H args us vs Q E hgd hr e0 hb r hsp => ?_⟩
  have hl := len vs H Q E hsp
  have KX := PySem.W.Frag.In.keeps e0.mod.kin fun b o e => (e0.bs b o e).1
  have lim := Heap.NoLimit.keeps e0.mod.nolimit fun b o e => (e0.bs b o e).1
  refine codeAny_call_function (Room.depth hr) (KX f _ lk) rfl S.co S.gen rfl (PySem.W.codeRec_of KX hcd) (hb (model P w) A.in1 _ _ (wpAny_newFunctionEnv_cells S.kind (fun x hy => ?_) fun env he s1 x => ?_))
  · obtain ⟨n, v⟩ := x
    rcases S.par n (List.of_mem_zip hy).1 with q | q
    · exact .inl q
    · exact .inr ⟨q, PySem.W.cellsFrom_some scope.names _ [] (.inl q)⟩
  · subst he
    refine ⟨Heap.NoLimit.keeps lim x.toInCall.keep, codeAny_func ?_⟩
    obtain ⟨t, ht, hq⟩ := hbody A outer s H vs Q E hgd (Room.deeper hr _) hsp
    have I := inv_start (CX := CX) (E := E) S hr.hd e0 hl r x
    refine wpAny_mono (ht.run [] s1 (L2.start N vs) H _ I hq) (fun fl s' hs => ?_) (fun e s' hs => hs)
    cases fl with
    | ret u =>
      obtain ⟨v, σ', H', J, rv, q⟩ := hs
      exact ⟨v, H', J.os, J.bare, J.base, J.hok, rv, q⟩
    | next =>
      obtain ⟨σ', H', J, q⟩ := hs
      exact ⟨V.non, H', J.os, J.bare, J.base, J.hok, rfl, q⟩
    | _ =>
      obtain ⟨_, _, _, q⟩ := hs
      exact q.elim
theorem Fun_okG {x qual : Str} {st : Stmt} {f : Addr} {fd : FuncData} {N ps : List Str} {sp : Sp} (F : Fun K x qual st f fd) (S : FnScope N ps (defScope st))
    (len : ∀ (vs : List V) (H : Hp) (Q : VK) (E : XK), sp vs H Q E → vs.length = ps.length)
    (hbody : ∀ (cdv : Value) (A : Around) (outer : List Env) (s : Shared) (H : Hp) (vs : List V) (Q : VK) (E : XK), A.guards = some [] → Room k (A.deeper (PyProof.Rows.envOfC qual (defScope st) s.heap.objs.size f cdv)) → sp vs H Q E →
      ∃ t, PSs (cxOf CX0 P w K mg base N qual (defScope st) f cdv A outer s H E).nox (defBody st) t ∧ t { nx := fun _ H' => Q V.non H', rt := Q } (L2.start N vs) H) :
    FnG P w K mg base CX0 (k + 1) f fd ps sp := by
  obtain ⟨oc, od, kV, doc, pm, an, cdv, ct, osl, rfl, lk, hcd⟩ := F.ex
  refine fn_ofG lk hcd S len fun A outer s H vs Q E hg hr hsp => ?_
  obtain ⟨t, h, q⟩ := hbody cdv A outer s H vs Q E hg hr hsp
  exact ⟨t, PSs.nox h, q⟩
end
theorem run_fnG {X : Cx} {CX : CXT} {k : Nat} {f : Addr} {fd : FuncData} {ps : List Str} {sp : Sp} {dvs : List V} {ds : List Value} {E : XK} {pins : List (Addr × Obj)} {σ : L2.St} {H : Hp} {s : Shared} {Q : VK} {us : List Value} {vs : List V}
    (F : FnG X.prog X.w X.K X.mg X.base CX k f fd ps sp) (hgd : X.A.guards = some []) (hr : Room k X.A) (hb : Binds X.K fd ps ds) (hd : Vals dvs ds) (hx : Passes CX X E) (I : L2.Inv X pins σ H s) (r : Vals vs us) (h : sp (vs ++ dvs) H Q E) :
    wpAny (model X.prog X.w) X.A (call (Value.ref f) us) (EP X pins σ Q) X.xe s := by
  have r2 := Vals.append r hd
  have hl : (us ++ ds).length = ps.length := by rw [← Vals.length r2]; exact F.len _ _ _ _ h
  refine wpAny_call (codeAny_mono (F.run X.A X.stack s H _ _ _ Q E hgd hr (Inv.env0 I) (hb s us (Inv.kIn I) hl) r2 h) fun r s' hq => ?_)
  cases r with
  | error e => exact hx pins σ H s e s' I hq
  | ok fl =>
    cases fl with
    | ret u => exact Inv.after I hq
    | _ => exact hq.elim
/-- a def of the text that keeps a promise where nothing is being shown, as its callers see it -/
def CalG (P : Program) (w : World) (K : PySem.W.Frag) (mg : Str → Option Value) (base : Heap) (k : Nat) (x : Str) (ps : List Str) (sp : Sp) : Prop :=
  ∃ f fd, FnG P w K mg base CX0 k f fd ps sp ∧ mg x = some (.ref f) ∧ PySem.W.keepIn K (.ref f) = true ∧ Binds K fd ps []
theorem pe_ownG {X : Cx} {k : Nat} {x : Str} {ps : List Str} {sp : Sp} {e : Expr} {es : List Expr} {t : TA} {p pos : Pos} (C : CalG X.prog X.w X.K X.mg X.base k x ps sp) (hgd : X.A.guards = some []) (hr : Room k X.A) (hg : Gl X x) (ha : PA X (e :: es) t)
    (dbg : (x == ("__debug__" : Str)) = false := by decide) (one : starEach (e :: es) X.env = (false, eval e X.env) :: starEach es X.env := by rfl) (star : (backTo pos (starEach es X.env)).any (·.1) = false := by rfl) :
    PE X (.Call (.Name x p) (e :: es) [] pos) (tCall sp [] E0 t) := by
  obtain ⟨f, fd, F, hm, hk, hb⟩ := C
  refine ⟨fun pins s σ H Q I h => wpAny_Call_Name_kw (ld_glob I hg hm (PySem.W.callWith_K I.ok.mod.kin hk (thn (ha.run pos pins s σ H _ I h) fun us s1 z => ?_) one star) dbg)⟩
  obtain ⟨vs, H1, I1, r, q⟩ := z
  exact ⟨Inv.kIn I1, run_fnG F hgd hr hb .nil pass0 I1 r q⟩
/-- str of data -/
def rStrD (K : PySem.W.Frag) : List V → Hp → VK → Prop := fun xs H Q => ∃ (a : Addr) (d : PyData), xs = [.ref a] ∧ Dp K H (.ref a) d ∧ d.showable = true ∧ d.hasDict = false ∧ d.depth ≤ 8 ∧ d.shown.length ≤ sizeLine ∧ Q (.str d.shown) H
theorem cr_strD {X : Cx} (hg : X.A.guards = some []) (hu : X.A.units + 11 < cLine) : CallR X (.type "str") (rStrD X.K) := fun pins s σ H xs us Q I hv h => by
  obtain ⟨a, d, rfl, hd, h1, h2, h3, h4, q⟩ := h
  cases hv with
  | cons ru hn =>
    cases hn
    cases ru
    obtain ⟨as, hR⟩ := Dp.reads I d (.ref a) (.ref a) hd rfl
    exact str_of_reads hR h1 (fun z => by rw [h2] at z; cases z) hg (by omega) (fun b o e => e) (fun h' u tk keep => ⟨.str d.shown, H, I.kept keep, ⟨u, rfl⟩, q⟩) h4
/-! ### the end -/
theorem law_callG {P : Program} {w : World} {K : PySem.W.Frag} {mg mb : Str → Option Value} {CX : CXT} {k : Nat} {fa a : Addr} {fd : FuncData} {x : Str} {sp : Sp} {s₁ : Shared} {vs : List Value} {ns : List Int}
    (KX : K.In s₁.heap) (hns : s₁.heap.Ns mainGlobals mg) (hb : s₁.heap.Ns builtinsNs mb) (hbb : ∀ (x : Str), x ≠ Str.ofString "__name__" → mb x = bootBuiltins x) (hlim : s₁.heap.NoLimit) (hg : s₁.gens = #[])
    (ha : s₁.heap.get? a = some { cls := Value.type "list", data := Data.seq vs.toArray }) (hi : PyProof.Rows.IntsAre vs ns) (hl : ns.length ≤ sizeLine) (hr : Room k callerA)
    (F : ∀ (base : Heap), K.In base → base.Ns mainGlobals mg → FnG P w K mg base CX k fa fd [x] sp) (hbind : ∀ (s : Shared) (u : Value), BindsTo s fd { pos := [u] } [(x, u)])
    (hsp : ∀ (H : Hp), Only H → SqL K H a (List.map V.int ns) → sp [V.ref a] H (fun v _ => v = V.bl true) fun _ _ _ => False) (hCX : ∀ (H : Hp) (e : Value) (s' : Shared), CX [] H s₁ (fun _ _ _ => False) e s' → False) :
    codeAny (model P w) callerA (Code.call (Value.ref fa) { pos := [Value.ref a] }) (fun r s' => r = Except.ok (Flow.ret (Value.bool true)) ∧ OldK s₁.heap s'.heap ∧ s'.os = s₁.os ∧ PyProof.Rows.AllBare s'.gens) s₁ := by
  have rv := vals_ints hi
  have lenV := PyProof.Rows.IntsAre.length hi
  have core : ∀ H : Hp, Only H → SqL K H a (List.map V.int ns) → HOk P w H s₁.heap → (∀ b, H b ≠ none → b = a) → (H a ≠ none → List.lookup a K = none) →
      codeAny (model P w) callerA (Code.call (Value.ref fa) { pos := [Value.ref a] }) (fun r s' => r = Except.ok (Flow.ret (Value.bool true)) ∧ OldK s₁.heap s'.heap ∧ s'.os = s₁.os ∧ PyProof.Rows.AllBare s'.gens) s₁ := by
    intro H hO hS hok hA hK
    have isA : ∀ {b : Addr} {u : HO}, H b = some u → b = a := fun {b u} hh => hA b (by rw [hh]; exact fun z => nomatch z)
    have noA : ∀ {b : Addr} {o : Obj} {es ep}, s₁.heap.get? b = some o → o.data = Data.dict es ep → H b = none := by
      intro b o es ep e d
      cases hh : H b with
      | none => rfl
      | some u =>
        rw [isA hh, ha] at e
        rw [← Option.some.inj e] at d
        cases d
    have nsK : ∀ {b : Addr} {m : Str → Option Value}, s₁.heap.Ns b m → (hidT s₁.heap H).Ns b m := fun {b m} z => by
      obtain ⟨o, es, ep, e, d, r⟩ := z
      exact ⟨o, es, ep, hidT_get e (noA e d), d, r⟩
    have hKb : K.In (hidT s₁.heap H) := fun b o e => hidT_get (KX b o e) (by
      cases hh : H b with
      | none => rfl
      | some u =>
        rw [isA hh, hK (by rw [isA hh] at hh; rw [hh]; exact fun z => nomatch z)] at e
        cases e)
    have hM : L2.Mod K mg (hidT s₁.heap H) := ⟨hKb, nsK hns, ⟨mb, nsK hb, hbb⟩, let ⟨mc, h1, h2⟩ := hlim; ⟨mc, nsK h1, h2⟩⟩
    have e0 : Env0 P w K mg (hidT s₁.heap H) callerA [] s₁ H := ⟨rfl, hM, fun b o e => of_hidT e, Nat.le_of_eq (hidT_size ..), trivial, fun b hb => (nomatch hb), hok, .of_eq hg⟩
    refine codeAny_mono ((F _ hKb (nsK hns)).run callerA [] s₁ H ⟨[.ref a], []⟩ [.ref a] [.ref a] (fun v _ => v = .bl true) (fun _ _ _ => False) rfl hr e0 (hbind s₁ (.ref a)) (.cons rfl .nil) (hsp H hO hS)) fun r s' h => ?_
    cases r with
    | error e => exact (hCX H e s' h).elim
    | ok fl =>
      cases fl with
      | ret u =>
        obtain ⟨v, H', os, bare, un, hok', r', q⟩ := h
        subst q
        cases r'
        refine ⟨rfl, OldK.of_keep fun b o e => ?_, os, bare⟩
        cases hh : H b with
        | none => exact un.keep b o e hh (fun z => nomatch z) (fun z => nomatch z)
        | some u =>
          rcases hO b with z | ⟨ob, xs, z⟩
          · rw [z] at hh; cases hh
          · have z2 := un.frzs b ob (HO.lst xs) z
            have e1 := (hok b _ z).1
            have e2 := (hok' b _ z2).1
            rw [e] at e1
            rw [Option.some.inj e1]
            exact e2
      | _ => exact h.elim
  cases hk : List.lookup a K with
  | none =>
    have at_a : (fun b => if b = a then some (HO.frz { cls := Value.type "list", data := Data.seq vs.toArray } (HO.lst (List.map V.int ns))) else none : Hp) a = some (HO.frz { cls := Value.type "list", data := Data.seq vs.toArray } (HO.lst (List.map V.int ns))) := if_pos rfl
    refine core (fun b => if b = a then some (HO.frz { cls := Value.type "list", data := Data.seq vs.toArray } (HO.lst (List.map V.int ns))) else none) (fun b => ?_) (.inl (.inr ⟨_, at_a⟩)) (fun b u z => ?_) (fun b z => ?_) (fun _ => hk)
    · by_cases hb : b = a
      · exact .inr ⟨_, _, if_pos hb⟩
      · exact .inl (if_neg hb)
    · by_cases hb : b = a
      · have z' := Eq.trans (Eq.symm (if_pos hb)) z
        cases z'
        subst hb
        exact ⟨ha, by rw [List.length_map]; exact hl, vs, 0, rv, ha⟩
      · have z' := Eq.trans (Eq.symm (if_neg hb)) z
        cases z'
    · by_cases hb : b = a
      · exact hb
      · exact absurd (if_neg hb) z
  | some o =>
    have e := KX a o hk
    rw [ha] at e
    cases e
    exact core (fun _ => none) (fun _ => .inl rfl) (.inr ⟨_, vs.toArray, 0, hk, rfl, rfl, rfl, by rw [List.size_toArray, lenV]; exact hl, rv⟩) (fun b u z => nomatch z) (fun b z => absurd rfl z) (fun z => absurd rfl z)
def LawAtG (l : PySem.W.OpenLaw) (w : World) (K : PySem.W.Frag) (k : Nat) (mg : Str → Option Value) (fa : Addr) : Prop :=
  ∃ (fd : FuncData) (sp : Sp), (∀ (s : Shared) (u : Value), BindsTo s fd { pos := [u] } [("_law_script", u)]) ∧ (∀ (H : Hp) (a : Addr) (ns : List Int), ns.length ≤ 63 → SqL K H a (List.map V.int ns) → sp [V.ref a] H (fun v _ => v = V.bl true) fun _ _ _ => False) ∧
    ∀ (base : Heap), K.In base → base.Ns mainGlobals mg → FnG l.prog w K mg base CX0 k fa fd ["_law_script"] sp
theorem law_endG {l : PySem.W.OpenLaw} {k : Nat} {q : Program} {loose : List Str} {XP : (Str → Option Value) → Heap → Prop} {YP : World → Heap → Prop} {d : DefRec} {K : Params → PySem.W.Frag} (most : l.most = some 63) (plain : d.params.defaults = []) (room : Room k callerA)
    (part : ∀ w h, YP w h → (K w.params).In h) (made : ∀ (w : World) (mg : Str → Option Value) (f : Addr) (h : Heap), (K w.params).In h → h.Ns mainGlobals mg → mg d.name = some (.ref f) → LawAtG l w (K w.params) k mg f) : PySem.W.WalkO q loose XP YP l.row.toRowW d [] (fun f vs => PySem.call f vs) := by
  refine Att.attach_callB most plain ?_
  intro w _ s₁ mg _ f _ _ _ _ a vs ns ground said _ _ _ name script nums len size still
  have X := part w _ said
  obtain ⟨fd, sp, e4, e5, e6⟩ := made w mg f _ X ground.T.g name
  exact law_callG X ground.T.g ground.T.b ground.T.builtins ground.T.nolimit still script nums (Nat.le_trans len (by decide)) room e6 e4 (fun H z1 z2 => e5 H a ns len z2) fun _ _ _ z => z

/-- an expression, then a word of what it gives: what follows is shown once -/
def tMid (te : TE) : TE := fun σ H Q => ∃ M : V → Hp → Prop, te σ H M ∧ ∀ v H', M v H' → Q v H'
theorem pe_mid {X : Cx} {e : Expr} {te : TE} (h : PE X e te) : PE X e (tMid te) := ⟨fun pins s σ H Q I ⟨M, h1, h2⟩ => thn (h.run pins s σ H M I h1) fun _ _ ⟨y, H1, I1, r, q⟩ => ⟨y, H1, I1, r, h2 _ _ q⟩⟩

/-! ### things as data; of the lists among them this holds -/
inductive DatN (N : Addr → Prop) (H : Hp) : V → PyData → Prop
  | non : DatN N H .non .none
  | bl (b : Bool) : DatN N H (.bl b) (.bool b)
  | int (i : Int) : DatN N H (.int i) (.int i)
  | str (x : Str) : DatN N H (.str x) (.str x)
  | lst {a : Addr} {xs : List V} {ds : List PyData} : N a → H a = some (.lst xs) → xs.length = ds.length → (∀ (i : Nat) x d, xs[i]? = some x → ds[i]? = some d → DatN N H x d) → DatN N H (.ref a) (.list ds)
  | tup {a : Addr} {xs : List V} {ds : List PyData} : H a = some (.tup xs) → xs.length = ds.length → (∀ (i : Nat) x d, xs[i]? = some x → ds[i]? = some d → DatN N H x d) → DatN N H (.ref a) (.tuple ds)
/-- tuples stay, and the lists of which this holds -/
structure Kps (N : Addr → Prop) (H H' : Hp) : Prop where
  tup : ∀ a xs, H a = some (.tup xs) → H' a = some (.tup xs)
  lst : ∀ a xs, N a → H a = some (.lst xs) → H' a = some (.lst xs)
theorem Kps.same {N : Addr → Prop} {H H' : Hp} (s : Same H H') : Kps N H H' := ⟨fun a xs e => s a _ e, fun a xs _ e => s a _ e⟩
theorem Kps.kp {N : Addr → Prop} {H H' : Hp} {d c : Addr} {t : Int} (k : Kp d c H H') (S : StAt H d c t) (hN : ∀ a, N a → a ≠ c) : Kps N H H' :=
  ⟨fun a xs e => k.tup S e, fun a xs n e => k a _ (fun z => by rw [z, S.dict] at e; cases e) (hN a n) e⟩
theorem Kps.upd {N : Addr → Prop} {H : Hp} {D : Addr} {ys : List V} {o : HO} (e : H D = some (.lst ys)) (hN : ∀ a, N a → a ≠ D) : Kps N H (upd H D o) :=
  ⟨fun a xs f => by rw [upd_ne (ne_of f e (fun z => nomatch z))]; exact f, fun a xs n f => by rw [upd_ne (hN a n)]; exact f⟩
theorem Kps.upd_dK {N : Addr → Prop} {H : Hp} {D : Addr} {ks : List (Key × V)} {o : HO} (e : H D = some (.dK ks)) : Kps N H (L2.upd H D o) :=
  ⟨fun a xs f => by rw [upd_ne (ne_of f e (fun z => nomatch z))]; exact f, fun a xs n f => by rw [upd_ne (ne_of f e (fun z => nomatch z))]; exact f⟩
theorem Kps.trans {N : Addr → Prop} {H H1 H2 : Hp} (a : Kps N H H1) (b : Kps N H1 H2) : Kps N H H2 := ⟨fun x xs e => b.tup x xs (a.tup x xs e), fun x xs n e => b.lst x xs n (a.lst x xs n e)⟩
theorem DatN.keep {N : Addr → Prop} {H H' : Hp} {v : V} {d : PyData} (h : DatN N H v d) (k : Kps N H H') : DatN N H' v d := by
  induction h with
  | non => exact .non
  | bl b => exact .bl b
  | int i => exact .int i
  | str x => exact .str x
  | lst n e l _ ih => exact .lst n (k.lst _ _ n e) l ih
  | tup e l _ ih => exact .tup (k.tup _ _ e) l ih
theorem DatN.same {N : Addr → Prop} {H H' : Hp} {v : V} {d : PyData} (h : DatN N H v d) (s : Same H H') : DatN N H' v d := h.keep (.same s)
theorem DatN.weak {N N' : Addr → Prop} {H : Hp} {v : V} {d : PyData} (h : DatN N H v d) (w : ∀ a xs, N a → H a = some (.lst xs) → N' a) : DatN N' H v d := by
  induction h with
  | non => exact .non
  | bl b => exact .bl b
  | int i => exact .int i
  | str x => exact .str x
  | lst n e l _ ih => exact .lst (w _ _ n e) e l ih
  | tup e l _ ih => exact .tup e l ih
theorem DatN.dat {N : Addr → Prop} {H : Hp} {v : V} {d : PyData} (h : DatN N H v d) : Dat H v d := by
  induction h with
  | non => exact .non
  | bl b => exact .bl b
  | int i => exact .int i
  | str x => exact .str x
  | lst n e l _ ih => exact .lst e l ih
  | tup e l _ ih => exact .tup e l ih
theorem dpAll_of {K : PySem.W.Frag} {H : Hp} : ∀ {xs : List V} {ds : List PyData}, xs.length = ds.length → (∀ (i : Nat) x d, xs[i]? = some x → ds[i]? = some d → Dp K H x d) → DpAll K H xs ds
  | [], [], _, _ => .nil
  | [], _ :: _, e, _ => nomatch e
  | _ :: _, [], e, _ => nomatch e
  | x :: xs, d :: ds, e, h => .cons (h 0 x d rfl rfl) (dpAll_of (Nat.succ.inj e) fun i y c e1 e2 => h (i + 1) y c e1 e2)
theorem DatN.dp {K : PySem.W.Frag} {N : Addr → Prop} {H : Hp} {v : V} {d : PyData} (h : DatN N H v d) : Dp K H v d := by
  induction h with
  | non => exact .non
  | bl b => exact .bl b
  | int i => exact .int i
  | str x => exact .str x
  | lst n e l _ ih => exact .lst (SqL.of e) (dpAll_of l ih)
  | tup e l _ ih => exact .tup (.inl (.inl e)) (dpAll_of l ih)
/-- things one by one as data -/
def EchN (N : Addr → Prop) (H : Hp) (xs : List V) (ds : List PyData) : Prop := xs.length = ds.length ∧ ∀ (i : Nat) x d, xs[i]? = some x → ds[i]? = some d → DatN N H x d
theorem EchN.keep {N : Addr → Prop} {H H' : Hp} {xs : List V} {ds : List PyData} (h : EchN N H xs ds) (k : Kps N H H') : EchN N H' xs ds := ⟨h.1, fun i x d e1 e2 => (h.2 i x d e1 e2).keep k⟩
theorem EchN.same {N : Addr → Prop} {H H' : Hp} {xs : List V} {ds : List PyData} (h : EchN N H xs ds) (s : Same H H') : EchN N H' xs ds := h.keep (.same s)
theorem EchN.weak {N N' : Addr → Prop} {H : Hp} {xs : List V} {ds : List PyData} (h : EchN N H xs ds) (w : ∀ a xs, N a → H a = some (.lst xs) → N' a) : EchN N' H xs ds := ⟨h.1, fun i x d e1 e2 => (h.2 i x d e1 e2).weak w⟩
theorem EchN.nil {N : Addr → Prop} {H : Hp} : EchN N H [] [] := ⟨rfl, fun _ _ _ e => nomatch e⟩
theorem EchN.cons {N : Addr → Prop} {H : Hp} {x : V} {d : PyData} {xs : List V} {ds : List PyData} (h : DatN N H x d) (hr : EchN N H xs ds) : EchN N H (x :: xs) (d :: ds) :=
  ⟨congrArg (· + 1) hr.1, fun i y e e1 e2 => by
    cases i with
    | zero => cases e1; cases e2; exact h
    | succ i => exact hr.2 i y e e1 e2⟩
theorem EchN.one {N : Addr → Prop} {H : Hp} {x : V} {d : PyData} (h : DatN N H x d) : EchN N H [x] [d] := .cons h .nil
theorem getElem?_two {α β : Type} {xs ys : List α} {us ws : List β} (l : xs.length = us.length) {i : Nat} {x : α} {u : β} (e1 : (xs ++ ys)[i]? = some x) (e2 : (us ++ ws)[i]? = some u) : (xs[i]? = some x ∧ us[i]? = some u) ∨ (ys[i - xs.length]? = some x ∧ ws[i - xs.length]? = some u) := by
  by_cases hi : i < xs.length
  · rw [List.getElem?_append_left hi] at e1
    rw [List.getElem?_append_left (by omega)] at e2
    exact .inl ⟨e1, e2⟩
  · rw [List.getElem?_append_right (by omega)] at e1 e2
    rw [← l] at e2
    exact .inr ⟨e1, e2⟩
theorem EchN.app {N : Addr → Prop} {H : Hp} {xs ys : List V} {ds es : List PyData} (h : EchN N H xs ds) (h' : EchN N H ys es) : EchN N H (xs ++ ys) (ds ++ es) :=
  ⟨by rw [List.length_append, List.length_append, h.1, h'.1], fun i v p e1 e2 => (getElem?_two h.1 e1 e2).elim (fun z => h.2 i v p z.1 z.2) (fun z => h'.2 _ v p z.1 z.2)⟩
theorem EchN.snoc {N : Addr → Prop} {H : Hp} {xs : List V} {ds : List PyData} {x : V} {d : PyData} (h : EchN N H xs ds) (h' : DatN N H x d) : EchN N H (xs ++ [x]) (ds ++ [d]) := h.app (.one h')
theorem EchN.at {N : Addr → Prop} {H : Hp} {xs : List V} {ds : List PyData} {i : Nat} {x : V} (h : EchN N H xs ds) (e : xs[i]? = some x) : ∃ d, ds[i]? = some d ∧ DatN N H x d := by
  have hi : i < ds.length := by rw [← h.1]; exact (List.getElem?_eq_some_iff.mp e).1
  exact ⟨_, List.getElem?_eq_getElem hi, h.2 i x _ e (List.getElem?_eq_getElem hi)⟩
theorem EchN.atM {α : Type} {N : Addr → Prop} {H : Hp} {xs : List V} {f : α → PyData} {ys : List α} {i : Nat} {x : V} (h : EchN N H xs (ys.map f)) (e : xs[i]? = some x) : ∃ y, ys[i]? = some y ∧ DatN N H x (f y) := by
  obtain ⟨d, e1, e2⟩ := h.at e
  rw [List.getElem?_map] at e1
  cases h : ys[i]? with
  | none => rw [h] at e1; cases e1
  | some y => rw [h] at e1; cases e1; exact ⟨y, rfl, e2⟩
theorem DatN.list {N : Addr → Prop} {H : Hp} {v : V} {ds : List PyData} (h : DatN N H v (.list ds)) : ∃ a xs, v = .ref a ∧ N a ∧ H a = some (.lst xs) ∧ EchN N H xs ds := by
  cases h with
  | lst n e l r => exact ⟨_, _, rfl, n, e, l, r⟩
theorem DatN.tuple {N : Addr → Prop} {H : Hp} {v : V} {ds : List PyData} (h : DatN N H v (.tuple ds)) : ∃ a xs, v = .ref a ∧ H a = some (.tup xs) ∧ EchN N H xs ds := by
  cases h with
  | tup e l r => exact ⟨_, _, rfl, e, l, r⟩
theorem EchN.lst {N : Addr → Prop} {H : Hp} {a : Addr} {xs : List V} {ds : List PyData} (h : EchN N H xs ds) (n : N a) (e : H a = some (.lst xs)) : DatN N H (.ref a) (.list ds) := .lst n e h.1 h.2
theorem EchN.tup {N : Addr → Prop} {H : Hp} {a : Addr} {xs : List V} {ds : List PyData} (h : EchN N H xs ds) (e : H a = some (.tup xs)) : DatN N H (.ref a) (.tuple ds) := .tup e h.1 h.2
theorem EchN.inv {N : Addr → Prop} {H : Hp} {xs : List V} {d : PyData} {ds : List PyData} (h : EchN N H xs (d :: ds)) : ∃ x xs', xs = x :: xs' ∧ DatN N H x d ∧ EchN N H xs' ds := by
  cases xs with
  | nil => exact nomatch h.1
  | cons x xs => exact ⟨x, xs, rfl, h.2 0 x d rfl rfl, Nat.succ.inj h.1, fun i y e e1 e2 => h.2 (i + 1) y e e1 e2⟩
theorem EchN.inv0 {N : Addr → Prop} {H : Hp} {xs : List V} (h : EchN N H xs []) : xs = [] := List.eq_nil_of_length_eq_zero h.1
theorem DatN.inv_int {N : Addr → Prop} {H : Hp} {v : V} {i : Int} (h : DatN N H v (.int i)) : v = .int i := by cases h; rfl
theorem DatN.inv_str {N : Addr → Prop} {H : Hp} {v : V} {x : Str} (h : DatN N H v (.str x)) : v = .str x := by cases h; rfl
theorem DatN.inv_non {N : Addr → Prop} {H : Hp} {v : V} (h : DatN N H v .none) : v = .non := by cases h; rfl
theorem DatN.inv_bl {N : Addr → Prop} {H : Hp} {v : V} {b : Bool} (h : DatN N H v (.bool b)) : v = .bl b := by cases h; rfl
theorem echN_ints {N : Addr → Prop} {H : Hp} (ns : List Int) : EchN N H (ns.map V.int) (ns.map PyData.int) := ⟨by rw [List.length_map, List.length_map], fun i x d e1 e2 => by
  rw [List.getElem?_map] at e1 e2
  cases h : ns[i]? with
  | none => rw [h] at e1; cases e1
  | some n =>
    rw [h] at e1 e2
    cases e1
    cases e2
    exact .int n⟩
theorem echN_strs {N : Addr → Prop} {H : Hp} (ns : List Str) : EchN N H (ns.map V.str) (ns.map PyData.str) := ⟨by rw [List.length_map, List.length_map], fun i x d e1 e2 => by
  rw [List.getElem?_map] at e1 e2
  cases h : ns[i]? with
  | none => rw [h] at e1; cases e1
  | some n =>
    rw [h] at e1 e2
    cases e1
    cases e2
    exact .str n⟩
theorem EchN.ints {N : Addr → Prop} {H : Hp} : ∀ {xs : List V} {ns : List Int}, EchN N H xs (ns.map PyData.int) → xs = ns.map V.int
  | _, [], h => h.inv0
  | _, n :: r, h => by
    obtain ⟨x, xs', rfl, h1, h2⟩ := EchN.inv h
    rw [h1.inv_int, EchN.ints h2]
    rfl
theorem EchN.strs {N : Addr → Prop} {H : Hp} : ∀ {xs : List V} {ns : List Str}, EchN N H xs (ns.map PyData.str) → xs = ns.map V.str
  | _, [], h => h.inv0
  | _, n :: r, h => by
    obtain ⟨x, xs', rfl, h1, h2⟩ := EchN.inv h
    rw [h1.inv_str, EchN.strs h2]
    rfl
/-- pairs of whole numbers -/
theorem _root_.GP.Prs.ech {N : Addr → Prop} {H : Hp} {us : List V} {ps : List (Int × Int)} (h : Prs H us ps) : EchN N H us (ps.map pairD) := ⟨by rw [List.length_map]; exact h.1, fun i x d e1 e2 => by
  obtain ⟨p, a, ep, rfl, ea⟩ := prs_at h e1
  rw [List.getElem?_map, ep] at e2
  cases e2
  exact EchN.tup (.cons (.int _) (.one (.int _))) ea⟩
theorem EchN.prs {N : Addr → Prop} {H : Hp} {us : List V} {ps : List (Int × Int)} (h : EchN N H us (ps.map pairD)) : Prs H us ps := ⟨by have := h.1; rwa [List.length_map] at this, fun i p ep => by
  have hi : i < us.length := by
    rw [h.1, List.length_map]
    exact (List.getElem?_eq_some_iff.mp ep).1
  obtain ⟨y, e1, e2⟩ := h.atM (List.getElem?_eq_getElem hi)
  rw [ep] at e1
  cases e1
  obtain ⟨a, xs, ev, ea, r⟩ := e2.tuple
  obtain ⟨x1, r1, rfl, d1, r2⟩ := r.inv
  obtain ⟨x2, r3, rfl, d2, r4⟩ := r2.inv
  rw [r4.inv0, d1.inv_int, d2.inv_int] at ea
  exact ⟨a, by rw [List.getElem?_eq_getElem hi, ev], ea⟩⟩
/-- new since then -/
abbrev NewIn (H : Hp) : Addr → Prop := fun a => H a = none
def setD (ps : List (Int × Int)) : PyData := .list (ps.map pairD)
/-! ### what can be shown -/
structure Shw (n w : Nat) (d : PyData) : Prop where
  sh : d.showable = true
  nd : d.hasDict = false
  dp : d.depth ≤ n
  ls : d.leavesShort 40 = true
  wt : d.weight ≤ w
theorem Shw.mono {n w n' w' : Nat} {d : PyData} (h : Shw n w d) (h1 : n ≤ n') (h2 : w ≤ w') : Shw n' w' d := ⟨h.sh, h.nd, Nat.le_trans h.dp h1, h.ls, Nat.le_trans h.wt h2⟩
theorem Shw.int {n : Nat} {i : Int} (h : i.natAbs < 10 ^ 39) : Shw n 131 (.int i) := by
  refine ⟨?_, by rw [PyData.hasDict], by rw [PyData.depth]; omega, ?_, ?_⟩
  · rw [PyData.showable]
    by_cases z : i.natAbs = 0
    · rw [z]; decide
    · exact decide_eq_true (Nat.lt_trans ((Nat.log2_lt (k := 130) z).mpr (Nat.lt_trans h (by decide))) (by decide))
  · rw [PyData.leavesShort]
    have e := int_text_length_le10 (k := 39) (by decide) h
    refine decide_eq_true ?_
    show (Str.ofString (toString i)).length ≤ 40
    rw [PySem.ofString_length]
    exact e
  · rw [PyData.weight]
    split
    · omega
    · by_cases z : i.natAbs = 0
      · rw [z]; decide
      · have : i.natAbs.log2 < 130 := (Nat.log2_lt z).mpr (Nat.lt_trans h (by decide))
        omega
theorem Shw.str {n w : Nat} {x : Str} (h : PyData.strOk x = true) (hl : x.length ≤ w) : Shw n w (.str x) := by
  refine ⟨by rw [PyData.showable], by rw [PyData.hasDict], by rw [PyData.depth]; omega, ?_, by rw [PyData.weight]; exact hl⟩
  rw [PyData.leavesShort, List.all_eq_true]
  intro c hc
  have h' : x.cps.all (· < 0x110000) = true := h
  rw [Array.all_eq_true'] at h'
  have := of_decide_eq_true (h' c (by simpa using hc))
  exact decide_eq_true (Nat.lt_trans this (by decide))
theorem Shw.none {n w : Nat} : Shw n w .none := ⟨by rw [PyData.showable], by rw [PyData.hasDict], by rw [PyData.depth]; omega, by rw [PyData.leavesShort], by rw [PyData.weight]; omega⟩
theorem Shw.bool {n w : Nat} {b : Bool} : Shw n w (.bool b) := ⟨by rw [PyData.showable], by rw [PyData.hasDict], by rw [PyData.depth]; omega, by rw [PyData.leavesShort], by rw [PyData.weight]; omega⟩
theorem shwAll : ∀ {n w : Nat} {ds : List PyData}, (∀ d ∈ ds, Shw n w d) → PyData.showableAll ds = true ∧ PyData.hasDictAll ds = false ∧ PyData.depthAll ds ≤ n ∧ PyData.leavesShortAll 40 ds = true ∧ PyData.weightAll ds ≤ ds.length * (w + 1)
  | n, w, [], _ => by simp [PyData.leavesShortAll, PyData.weightAll, PyData.showableAll, PyData.hasDictAll, PyData.depthAll]
  | n, w, d :: r, h => by
    obtain ⟨g1, g2, g3, g4, g5⟩ := shwAll (ds := r) fun q hq => h q (List.mem_cons_of_mem _ hq)
    obtain ⟨h1, h2, h3, h4, h5⟩ := h d (List.mem_cons_self ..)
    refine ⟨by rw [PyData.showableAll, h1, g1]; rfl, by rw [PyData.hasDictAll, h2, g2]; rfl, by rw [PyData.depthAll]; omega, by rw [PyData.leavesShortAll, h4, g4]; rfl, ?_⟩
    rw [PyData.weightAll, List.length_cons, Nat.succ_mul]
    omega
theorem Shw.list {n w m W : Nat} {ds : List PyData} (h : ∀ d ∈ ds, Shw n w d) (hl : ds.length ≤ m) (hW : m * (w + 1) ≤ W) : Shw (n + 1) W (.list ds) := by
  obtain ⟨g1, g2, g3, g4, g5⟩ := shwAll h
  have := Nat.mul_le_mul_right (w + 1) hl
  exact ⟨by rw [PyData.showable]; exact g1, by rw [PyData.hasDict]; exact g2, by rw [PyData.depth]; omega, by rw [PyData.leavesShort]; exact g4, by rw [PyData.weight]; omega⟩
theorem Shw.tuple {n w m W : Nat} {ds : List PyData} (h : ∀ d ∈ ds, Shw n w d) (hl : ds.length ≤ m) (hW : m * (w + 1) ≤ W) : Shw (n + 1) W (.tuple ds) := by
  obtain ⟨g1, g2, g3, g4, g5⟩ := shwAll h
  have := Nat.mul_le_mul_right (w + 1) hl
  exact ⟨by rw [PyData.showable]; exact g1, by rw [PyData.hasDict]; exact g2, by rw [PyData.depth]; omega, by rw [PyData.leavesShort]; exact g4, by rw [PyData.weight]; omega⟩
theorem Shw.listM {α : Type} {n w m W : Nat} {f : α → PyData} {ys : List α} (h : ∀ y ∈ ys, Shw n w (f y)) (hl : ys.length ≤ m) (hW : m * (w + 1) ≤ W) : Shw (n + 1) W (.list (ys.map f)) :=
  .list (fun d hd => by obtain ⟨y, hy, rfl⟩ := List.mem_map.mp hd; exact h y hy) (by rw [List.length_map]; exact hl) hW
theorem all2 {α : Type} {P : α → Prop} {x y : α} (h1 : P x) (h2 : P y) : ∀ z ∈ [x, y], P z := fun z hz => by
  rcases List.mem_cons.mp hz with e | e
  · rw [e]; exact h1
  · rw [List.mem_singleton.mp e]; exact h2
theorem all3 {α : Type} {P : α → Prop} {x y u : α} (h1 : P x) (h2 : P y) (h3 : P u) : ∀ z ∈ [x, y, u], P z := fun z hz => by
  rcases List.mem_cons.mp hz with e | e
  · rw [e]; exact h1
  · exact all2 h2 h3 z e
theorem Shw.shown {w : Nat} {d : PyData} (h : Shw 8 w d) (hw : w ≤ 390000) : d.showable = true ∧ d.hasDict = false ∧ d.depth ≤ 8 ∧ d.shown.length ≤ sizeLine :=
  ⟨h.sh, h.nd, h.dp, by
    have z := PyData.shown_le 40 (by decide) d h.ls
    have := h.wt
    exact Nat.le_trans z (Nat.le_trans (show (40 + 2) * d.weight + 40 ≤ 16380040 by omega) (by decide))⟩

/-! ### comprehensions, by what they make -/
/-- a thing's truth, as a test -/
def tTru (K : PySem.W.Frag) (te : TE) : TT := fun σ H Q => te σ H fun x H' => ∃ k, TruV K x H' k ∧ Q k H'
abbrev LcW (J : It) (g : TG) (tt : TT) (te : TE) (vs : List Nat) (σ : L2.St) (D : Addr) (Qd : Hp → Prop) (H1 : Hp) : Prop := ∃ W : Nat → Nat → Hp → Prop, (∃ m, W 0 m (upd H1 D (.lst []))) ∧ ∀ i m H, W i m H →
  (J.stop i H ∧ Qd H) ∨ (J.go i H ∧ ∃ Nx : Hp → Prop, (∀ H', Nx H' → ∃ m', m' < m ∧ W (i + 1) m' H') ∧ ∀ x H', J.yld i H x H' → g x (wipe σ vs) H' fun σ2 H2 => wipe σ2 vs = wipe σ vs ∧ tt σ2 H2 fun b H3 => if b = true then
    te σ2 H3 fun y H4 => ∃ acc, H4 D = some (.lst acc) ∧ acc.length < sizeLine ∧ Nx (upd H4 D (.lst (acc ++ [y]))) else Nx H3)
/-- each item makes something new, all else stays -/
theorem lc_new {J : It} {n : Nat} {G : Hp → Prop} {Y : Nat → Hp → V → Hp → Prop} (w : Walk J n G Y) {g : TG} {tt : TT} {te : TE} {vs : List Nat} {σ : L2.St} {H1 : Hp} {D : Addr} {Qd : Hp → Prop} (ds : List PyData) (nD : H1 D = none) (hn : ds.length = n) (hz : n ≤ 1000) (hG : ∀ H, Same H1 H → G H)
    (turn : ∀ i x d H H' (Kt : V → Hp → Prop) (Kn : Hp → Prop), ds[i]? = some d → Same H1 H → Y i H x H' → (∀ y H4, Same H H4 → DatN (NewIn H) H4 y d → Kt y H4) → g x (wipe σ vs) H' fun σ2 H2 => wipe σ2 vs = wipe σ vs ∧ tt σ2 H2 fun b H3 => if b = true then te σ2 H3 Kt else Kn H3)
    (fin : ∀ H, Same H1 H → DatN (NewIn H1) H (.ref D) (.list ds) → Qd H) : LcW J g tt te vs σ D Qd H1 := by
  refine lc_it w (fun j H => Same H1 H ∧ ∃ ws, H D = some (.lst ws) ∧ EchN (fun a => H1 a = none ∧ a ≠ D) H ws (ds.take j)) ⟨same_upd nD, [], upd_same, .nil⟩ (fun i H _ p => hG H p.1) (fun i x H H' hi hP hy => ?_) (fun H hP => ?_)
  · obtain ⟨sm, ws, eD, hws⟩ := hP
    have hd : ds[i]? = some ds[i] := List.getElem?_eq_getElem (by omega)
    refine turn i x _ H H' _ _ hd sm hy fun y H4 s4 hd4 => ?_
    have eD4 := s4 _ _ eD
    have hl : ws.length ≤ 1000 := by
      rw [hws.1, List.length_take]
      omega
    have hl' : ws.length < 1000 := by
      rw [hws.1, List.length_take]
      omega
    refine ⟨ws, eD4, Nat.lt_of_lt_of_le hl' (by decide), fun b o e => ?_, ws ++ [y], upd_same, ?_⟩
    · rw [upd_ne (ne_of_none e nD)]
      exact s4 _ _ (sm b o e)
    · rw [List.take_add_one, hd]
      have k : Kps (fun a => H1 a = none ∧ a ≠ D) H4 (upd H4 D (.lst (ws ++ [y]))) := .upd eD4 fun a z => z.2
      refine ((hws.same s4).keep k).snoc (DatN.keep (hd4.weak fun a xs (z : H a = none) e => ⟨sm.free z, fun q => ?_⟩) k)
      rw [q, eD] at z
      cases z
  · obtain ⟨sm, ws, eD, hws⟩ := hP
    rw [List.take_of_length_le (by omega)] at hws
    exact fin H sm ((hws.weak fun a _ z _ => z.1).lst nD eD)
/-- each item makes something new by draws -/
theorem lc_draw {α : Type} (f : α → PyData) (R : Nat → α → Prop) (T : Int) {J : It} {n : Nat} {G : Hp → Prop} {Y : Nat → Hp → V → Hp → Prop} (w : Walk J n G Y) {g : TG} {tt : TT} {te : TE} {vs : List Nat} {σ : L2.St} {H1 : Hp} {D d c : Addr} {t1 : Int} {Qd : Hp → Prop} (S1 : StAt H1 d c t1) (nD : H1 D = none) (hz : n ≤ 1000) (hG : ∀ H, Kp d c H1 H → G H)
    (turn : ∀ i x H H' t (Kt : V → Hp → Prop) (Kn : Hp → Prop), i < n → t1 ≤ t → t ≤ t1 + T * (i : Int) → StAt H d c t → Kp d c H1 H → Y i H x H' → (∀ z y t' H4, R i z → DatN (NewIn H) H4 y (f z) → t ≤ t' → t' ≤ t + T → StAt H4 d c t' → Kp d c H H4 → Kt y H4) →
      g x (wipe σ vs) H' fun σ2 H2 => wipe σ2 vs = wipe σ vs ∧ tt σ2 H2 fun b H3 => if b = true then te σ2 H3 Kt else Kn H3)
    (fin : ∀ (H : Hp) (t : Int) (zs : List α), zs.length = n → (∀ (i : Nat) z, zs[i]? = some z → R i z) → t1 ≤ t → t ≤ t1 + T * (n : Int) → StAt H d c t → Kp d c H1 H → DatN (NewIn H1) H (.ref D) (.list (zs.map f)) → Qd H) : LcW J g tt te vs σ D Qd H1 := by
  have off := S1.off nD
  refine lc_it w (fun j H => ∃ (t : Int) (ws : List V) (zs : List α), H D = some (.lst ws) ∧ EchN (fun a => H1 a = none ∧ a ≠ D) H ws (zs.map f) ∧ zs.length = j ∧ (∀ (i : Nat) z, zs[i]? = some z → R i z) ∧ t1 ≤ t ∧ t ≤ t1 + T * (j : Int) ∧ StAt H d c t ∧ Kp d c H1 H)
    ⟨t1, [], [], upd_same, .nil, rfl, (fun _ _ e => nomatch e), Int.le_refl _, by omega, S1.same (same_upd nD), Kp.same d c (same_upd nD)⟩ (fun i H _ hP => ?_) (fun i x H H' hi hP hy => ?_) (fun H hP => ?_)
  · obtain ⟨_, _, _, _, _, _, _, _, _, _, k⟩ := hP
    exact hG H k
  · obtain ⟨t, ws, zs, eD, hws, hzl, hR, t0, t2, hS, k⟩ := hP
    refine turn i x H H' t _ _ hi t0 t2 hS k hy fun z y t' H4 hz' hd4 u0 u1 hS4 k4 => ?_
    have eD4 := k4 _ _ off.1 off.2 eD
    have hwl : ws.length = i := by rw [hws.1, List.length_map, hzl]
    have kk : Kps (fun a => H1 a = none ∧ a ≠ D) H4 (upd H4 D (.lst (ws ++ [y]))) := .upd eD4 fun a z => z.2
    have k1 : Kps (fun a => H1 a = none ∧ a ≠ D) H H4 := .kp k4 hS fun a z q => by
      obtain ⟨cs, ec, _⟩ := S1.cells
      rw [q, ec] at z
      exact nomatch z.1
    refine ⟨ws, eD4, Nat.lt_of_lt_of_le (show ws.length < 1000 by omega) (by decide), t', ws ++ [y], zs ++ [z], upd_same, ?_, by rw [List.length_append, hzl]; rfl, fun j q e => ?_, by omega, ?_, hS4.upd off.1 off.2, fun b o b1 b2 e => ?_⟩
    · rw [List.map_append]
      refine ((hws.keep k1).keep kk).snoc (DatN.keep (hd4.weak fun a xs (z : H a = none) e => ⟨?_, fun q => ?_⟩) kk)
      · cases e1 : H1 a with
        | none => rfl
        | some o =>
          by_cases z1 : a = d
          · rw [z1, hS.dict] at z; cases z
          · by_cases z2 : a = c
            · obtain ⟨cs, ec, _⟩ := hS.cells
              rw [z2, ec] at z; cases z
            · have := k a o z1 z2 e1
              rw [this] at z
              cases z
      · rw [q, eD] at z
        cases z
    · by_cases hj : j < zs.length
      · rw [List.getElem?_append_left hj] at e
        exact hR j q e
      · rw [List.getElem?_append_right (by omega)] at e
        have hj0 : j - zs.length < 1 := (List.getElem?_eq_some_iff.mp e).1
        have ej : j = i := by omega
        subst ej
        rw [hzl, Nat.sub_self] at e
        cases e
        exact hz'
    · have : T * ((i + 1 : Nat) : Int) = T * (i : Int) + T := by
        rw [Int.natCast_add, Int.mul_add]
        omega
      omega
    · rw [upd_ne (ne_of_none e nD)]
      exact k4 b o b1 b2 (k b o b1 b2 e)
  · obtain ⟨t, ws, zs, eD, hws, hzl, hR, t0, t2, hS, k⟩ := hP
    exact fin H t zs hzl hR t0 t2 hS k ((hws.weak fun a _ z _ => z.1).lst nD eD)
/-- those items of which this holds -/
theorem lc_keep {K : PySem.W.Frag} {a : Addr} {xs : List V} (pb : V → Bool) {g : TG} {tt : TT} {te : TE} {vs : List Nat} {σ : L2.St} {H1 : Hp} {D : Addr} {Qd : Hp → Prop} (nD : H1 D = none) (ea : H1 a = some (.lst xs)) (hz : xs.length ≤ 1000)
    (turn : ∀ (i : Nat) (x : V) (H : Hp) (Kt : V → Hp → Prop) (Kn : Hp → Prop), xs[i]? = some x → Same H1 H → (∀ H4, Same H H4 → pb x = true → Kt x H4) → (∀ H4, Same H H4 → pb x = false → Kn H4) → g x (wipe σ vs) H fun σ2 H2 => wipe σ2 vs = wipe σ vs ∧ tt σ2 H2 fun b H3 => if b = true then te σ2 H3 Kt else Kn H3)
    (fin : ∀ H, Same H1 H → H D = some (.lst (xs.filter pb)) → Qd H) : LcW (Itl K a) g tt te vs σ D Qd H1 := by
  refine lc_it walk_list (fun j H => Same H1 H ∧ H D = some (.lst ((xs.take j).filter pb))) ⟨same_upd nD, upd_same⟩ (fun i H _ p => SqL.of (p.1 _ _ ea)) (fun i x H H' hi hP hy => ?_) (fun H hP => ?_)
  · obtain ⟨sm, eD⟩ := hP
    obtain ⟨rfl, hx⟩ := hy
    have et : (xs.take (i + 1)).filter pb = (xs.take i).filter pb ++ (if pb x = true then [x] else []) := by
      rw [List.take_add_one, hx, List.filter_append]
      by_cases c : pb x = true
      · rw [if_pos c]
        show _ ++ List.filter pb [x] = _
        rw [List.filter_cons_of_pos c]
        rfl
      · rw [if_neg c]
        show _ ++ List.filter pb [x] = _
        rw [List.filter_cons_of_neg c]
        rfl
    have hl : ((xs.take i).filter pb).length ≤ i := Nat.le_trans (List.length_filter_le ..) (by rw [List.length_take]; omega)
    refine turn i x H' _ _ hx sm (fun H4 s4 c => ?_) (fun H4 s4 c => ?_)
    · refine ⟨_, s4 _ _ eD, Nat.lt_of_lt_of_le (show _ < 1000 by omega) (by decide), fun b o e => ?_, ?_⟩
      · rw [upd_ne (ne_of_none e nD)]
        exact s4 _ _ (sm b o e)
      · rw [upd_same, et, if_pos c]
    · refine ⟨sm.trans s4, ?_⟩
      rw [et, if_neg (by rw [c]; decide), List.append_nil]
      exact s4 _ _ eD
  · obtain ⟨sm, eD⟩ := hP
    rw [List.take_length] at eD
    exact fin H sm eD
theorem lc_new_seq {K : PySem.W.Frag} {a : Addr} {xs : List V} {g : TG} {tt : TT} {te : TE} {vs : List Nat} {σ : L2.St} {H1 : Hp} {Qd : Addr → Hp → Prop} (hq : SqH H1 a xs) (ds : List PyData) (hn : ds.length = xs.length) (hz : xs.length ≤ 1000)
    (turn : ∀ (i : Nat) (x : V) (d : PyData) (H : Hp) (Kt : V → Hp → Prop) (Kn : Hp → Prop), xs[i]? = some x → ds[i]? = some d → Same H1 H → (∀ y H4, Same H H4 → DatN (NewIn H) H4 y d → Kt y H4) → g x (wipe σ vs) H fun σ2 H2 => wipe σ2 vs = wipe σ vs ∧ tt σ2 H2 fun b H3 => if b = true then te σ2 H3 Kt else Kn H3)
    (fin : ∀ D H, H1 D = none → Same H1 H → DatN (NewIn H1) H (.ref D) (.list ds) → Qd D H) :
    ((∃ xs, SqL K H1 a xs) ∧ ∀ D, H1 D = none → LcR (Itl K a) g tt te vs σ D Qd H1) ∨ ((∃ xs, SqT K H1 a xs) ∧ ∀ D, H1 D = none → LcR (Itt K a) g tt te vs σ D Qd H1) := by
  rcases hq with h | h
  · exact .inl ⟨⟨xs, SqL.of h⟩, fun D nD => lc_new (walk_list (xs := xs)) ds nD hn hz (fun H s => SqL.of (s _ _ h)) (fun i x d H H' Kt Kn hd sm hy k => by obtain ⟨rfl, hx⟩ := hy; exact turn i x d H' Kt Kn hx hd sm k) (fun H s d => fin D H nD s d)⟩
  · exact .inr ⟨⟨xs, .inl (.inl h)⟩, fun D nD => lc_new (walk_tup (xs := xs)) ds nD hn hz (fun H s => .inl (.inl (s _ _ h))) (fun i x d H H' Kt Kn hd sm hy k => by obtain ⟨rfl, hx⟩ := hy; exact turn i x d H' Kt Kn hx hd sm k) (fun H s d => fin D H nD s d)⟩
theorem lc_new_list {K : PySem.W.Frag} {a : Addr} {xs : List V} {g : TG} {tt : TT} {te : TE} {vs : List Nat} {σ : L2.St} {H1 : Hp} {D : Addr} {Qd : Hp → Prop} (nD : H1 D = none) (hq : H1 a = some (.lst xs)) (ds : List PyData) (hn : ds.length = xs.length) (hz : xs.length ≤ 1000)
    (turn : ∀ (i : Nat) (x : V) (d : PyData) (H : Hp) (Kt : V → Hp → Prop) (Kn : Hp → Prop), xs[i]? = some x → ds[i]? = some d → Same H1 H → (∀ y H4, Same H H4 → DatN (NewIn H) H4 y d → Kt y H4) → g x (wipe σ vs) H fun σ2 H2 => wipe σ2 vs = wipe σ vs ∧ tt σ2 H2 fun b H3 => if b = true then te σ2 H3 Kt else Kn H3)
    (fin : ∀ H, Same H1 H → DatN (NewIn H1) H (.ref D) (.list ds) → Qd H) : LcW (Itl K a) g tt te vs σ D Qd H1 :=
  lc_new (walk_list (xs := xs)) ds nD hn hz (fun H s => SqL.of (s _ _ hq)) (fun i x d H H' Kt Kn hd sm hy k => by obtain ⟨rfl, hx⟩ := hy; exact turn i x d H' Kt Kn hx hd sm k) fin

open LamX
/-! ### sorted(xs, key=lambda a: ..) -/
/-- the names of such a lambda: its parameter, captured ones, the module's -/
structure LamP (sc scope : Scope) (a : Str) : Prop where
  kind : scope.kind = .function
  co : scope.isCoroutine = false
  gen : scope.isGenerator = false
  par : scope.names.lookup a = some .local
  own : ∀ y ∈ scope.names, y.2 ≠ .cell
  free : ∀ y ∈ scope.names, y.2 = .free → sc.names.lookup y.1 = some .cell ∨ sc.names.lookup y.1 = some .free
def lamPB (sc scope : Scope) (a : Str) : Bool :=
  decide (scope.kind = .function) && !scope.isCoroutine && !scope.isGenerator && decide (scope.names.lookup a = some .local) && scope.names.all fun y => !decide (y.2 = .cell) && (!decide (y.2 = .free) || decide (sc.names.lookup y.1 = some .cell) || decide (sc.names.lookup y.1 = some .free))
theorem lamP_by {sc scope : Scope} {a : Str} (h : lamPB sc scope a = true) : LamP sc scope a := by
  unfold lamPB at h
  simp only [Bool.and_eq_true, Bool.or_eq_true, Bool.not_eq_true', decide_eq_true_eq, decide_eq_false_iff_not, List.all_eq_true] at h
  obtain ⟨⟨⟨⟨h1, h2⟩, h3⟩, h4⟩, h5⟩ := h
  refine ⟨h1, h2, h3, h4, fun y hy => (h5 y hy).1, fun y hy e => ?_⟩
  rcases (h5 y hy).2 with (z | z) | z
  · exact absurd e z
  · exact .inl z
  · exact .inr z
/-- the table of lambdas at P stands, all else is kept -/
def TbL (P : Addr) (q : Str) (H H2 : Hp) : Prop := TabS H2 P q ∧ ∀ b o, H b = some o → (∀ ps, o ≠ .tbl ps) → H2 b = some o
/-- what the body must tell: run in the lambda's frame, it gives the key of what the parameter holds -/
def KeyBody (X : Cx) (scope : Scope) (a : Str) (body : Expr) (Kf : L2.St → Hp → V → PyData → Prop) : Prop :=
  ∀ (pins : List (Addr × Obj)) (σ : L2.St) (H : Hp) (s s1 : Shared) (A : Around) (L f c' : Addr) (v : Value) (x : V) (d : PyData), Inv X pins σ H s → (∀ b o, s.heap.get? b = some o → s1.heap.get? b = some o) → s1.heap.Ns L (fun y => [(a, v)].lookup y) →
    RelV x v → Kf σ H x d → wpAny (model X.prog X.w) A (eval body (lamEnv X scope L f c')) (PySem.W.KeyPure d s1) (fun _ _ => False) s1
def tSortL (K : PySem.W.Frag) (P : Addr) (q : Str) (Kf : L2.St → Hp → V → PyData → Prop) (t : TA) : TE := fun σ H Q => t σ H fun vs H1 => TabS H1 P q ∧ ∃ (a : Addr) (xs : List V) (k : V → PyData), vs = [.ref a] ∧ SqL K H1 a xs ∧
  PySem.W.AllAlike (xs.map k) ∧ PySem.W.Sortable (xs.map k) ∧ (∀ x ∈ xs, (k x).depth ≤ 8) ∧ (∀ x ∈ xs, ∀ H2, TbL P q H1 H2 → Kf σ H2 x (k x)) ∧ ∀ H2 p, TbL P q H1 H2 → H2 p = none → Q (.ref p) (upd H2 p (.lst (xs.mergeSort (PySem.W.dataLe false k))))
theorem each_vals : ∀ {xs : List V} {us : List Value}, Vals xs us → PySem.W.EachIs (fun v x => RelV x v) us xs
  | _, _, .nil => .nil
  | _, _, .cons r t => .cons r (each_vals t)
theorem vals_each : ∀ {xs : List V} {us : List Value}, PySem.W.EachIs (fun v x => RelV x v) us xs → Vals xs us
  | _, _, .nil => .nil
  | _, _, .cons r t => .cons r (vals_each t)
section
variable {X : Cx} {c P : Addr} {e : Expr} {t : TA} {params : Arguments} {body : Expr} {scope : Scope} {a : Str} {lpos kpos p pos : Pos} {Kf : L2.St → Hp → V → PyData → Prop}
theorem pe_sortedL (TB : LamX.TabB X.base X.mg c P) (hcode : X.env.code = .ref c) (hg : Gl X "sorted") (hm : X.mg "sorted" = none) (hr : Room 3 X.A) (ha : PA X [e] t) (hdef : defaultsOf params X.env = ([], [])) (LP : LamP X.env.scope scope a)
    (hbind : ∀ (v pm ctv : Value) (c' : Addr), bindArgs (PySem.W.kla_fn "<lambda>" (X.env.qual ++ "<lambda>") params body scope (cloFrom X.env.cells scope.names []) pm (.ref c') ctv) ⟨[v], []⟩ = pure [(a, v)])
    (hkey : KeyBody X scope a body Kf) (h1 : backTo pos (starEach [e] X.env) = (false, eval e X.env) :: backTo pos (starEach [] X.env) := by rfl) (h2 : (backTo pos (starEach [e] X.env)).any (·.1) = false := by rfl) :
    PE X (.Call (.Name "sorted" p) [e] [⟨some "key", .Lambda params body scope lpos, kpos⟩] pos) (tSortL X.K P (X.env.qual ++ "<lambda>") Kf t) := by
  refine ⟨fun pins s σ H Q I h => ?_⟩
  refine wpAny_Call_Name_kw (ld_blt I hg hm (show bootBuiltins "sorted" = some (.builtin "sorted") by decide +kernel) ?_ (by decide) (by decide))
  refine PyProof.Rows.callWith_kw (thn (ha.run pos pins s σ H _ I h) fun us s1 ⟨vs, H1, I1, r1, hT, aL, xs, k, ev, hS, hal, hso, hdp, hkf, q1⟩ => ?_) h1 h2 rfl rfl
  subst ev
  obtain rfl := Vals.ref1 r1
  show wpAny _ _ (evalAll [do let v ← eval (.Lambda params body scope lpos) X.env; standAt pos; pure v]) _ _ s1
  have hfree : ∀ y ∈ scope.names, y.2 = .free → ∃ c, X.env.cells.lookup y.1 = some c := fun y hy e => by
    rcases LP.free y hy e with z | z
    · exact I.ok.has _ (.inl z)
    · exact I.ok.has _ (.inr z)
  refine wpAny_evalAll_cons (wpAny_bind (lam_make2 (T := [(P, X.env.qual ++ "<lambda>")]) I1 TB hcode (List.mem_cons_self ..) (fun p hp _ => by rw [List.mem_singleton.mp hp]) (fun p hp => by rw [List.mem_singleton.mp hp]; exact hT) hdef hfree
    fun f c' pm ctv H2 s2 I2 x2 T2 hf nf ff hc => wpAny_bind (wpAny_standAt (wpAny_pure (wpAny_evalAll_nil ?_)))))
  have tb2 : TbL P (X.env.qual ++ "<lambda>") H1 H2 := ⟨T2 _ (List.mem_cons_self ..), x2⟩
  have hS2 : SqL X.K H2 aL xs := by
    rcases hS with z | z
    · rcases z with z | ⟨o, z⟩
      · exact .inl (.inl (x2 _ _ z (fun _ w => nomatch w)))
      · exact .inl (.inr ⟨o, x2 _ _ z (fun _ w => nomatch w)⟩)
    · exact .inr z
  obtain ⟨its, rv, pl, hz⟩ := I2.list hS2
  show wpAny _ _ (call (.builtin "sorted") [.ref aL] [(Str.ofString "key", .ref f)]) _ _ s2
  have hun := hr.un
  refine PySem.W.sorted_key_data (R := fun v x => RelV x v) (bs := xs) (vs := its) (b := false) k pl.isList (each_vals rv) hal hso hz (fun x hx => by have := hdp x hx; omega) (PyProof.Rows.ksk_s1 _ _) (fun _ => PyProof.Rows.ksk_l1 _ _) (fun x => PyProof.Rows.ksk_t1 f x) (fun v x hR hx h tk kp => ?_) (fun out c h' tk kp n0 ho hl eo => ?_)
  · have I3 : Inv X pins σ H2 { s2 with heap := h, toks := tk } := I2.kept kp
    have hf3 := kp _ _ hf
    obtain ⟨⟨oc, vs', t', hoc, hdc, hvc⟩, _, _⟩ := I2.hok c' _ hc
    have hr2 : Room 1 X.A.in1.in1 := hr.in1.in1
    refine wpAny_call (codeAny_mono (R := fun r s' => ∃ u, r = .ok (.ret u) ∧ PySem.W.KeyPure (k x) { s2 with heap := h, toks := tk } u s') ?_ fun r s' hq => ?_)
    · refine PySem.W.kla_callFunE (by have := hr2.dp; omega) hf3 rfl LP.co LP.gen rfl ⟨c', oc, vs', t', rfl, kp _ _ hoc, hdc, hvc⟩ ?_
      rw [hbind]
      refine wpAny_pure (wpAny_newFunctionEnv (fun y hy => LP.own y hy) (fun y hy => by rw [List.mem_singleton.mp hy]; exact LP.par) (fun h₁ hns hsb => ⟨I3.nolimit.fresh _ hsb, ?_⟩) LP.kind)
      have kp1 : ∀ b o, h.get? b = some o → h₁.get? b = some o := fun b o e => hsb.extBut b o (Nat.ne_of_lt (Heap.lt_size e)) (Heap.get?_push_of_some _ e)
      show codeAny _ _ (.expr body (lamEnv X scope h.objs.size f c')) _ _
      refine PySem.W.kla_codeExpr (wpAny_mono (hkey pins σ H2 { s2 with heap := h, toks := tk } { s2 with heap := h₁, toks := tk + 1 } _ h.objs.size f c' v x (k x) I3 kp1 hns hR (hkf x hx H2 tb2)) (fun u s' hq => ?_) fun _ _ z => z.elim)
      obtain ⟨h5, tk5, rfl, k5, rd⟩ := hq
      exact ⟨u, rfl, h5, tk5, rfl, fun b o e => k5 b o (kp1 b o e), rd⟩
    · obtain ⟨u, rfl, hk⟩ := hq
      exact hk
  · have hlen : (xs.mergeSort (PySem.W.dataLe false k)).length ≤ sizeLine := by rw [List.length_mergeSort]; exact hz
    have np : H2 (s2.heap.objs.size + 1) = none := I2.hok.fresh (Nat.le_succ _)
    exact ⟨.ref _, upd H2 (s2.heap.objs.size + 1) (.lst (xs.mergeSort (PySem.W.dataLe false k))), I2.laid (t' := tk) kp (Nat.le_succ _) ⟨hlen, _, c, vals_each eo, ho⟩, rfl, q1 H2 _ tb2 np⟩
end

/-- an expression that changes nothing but the count of tokens -/
def Gv (prog : Program) (w : World) (A : Around) (env : Env) (e : Expr) (s : Shared) (R : Value → Prop) : Prop := ∀ (tk0 : Nat) (Q : Value → Shared → Prop) (E : Value → Shared → Prop), (∀ u tk, R u → Q u { s with toks := tk }) → wpAny (model prog w) A (eval e env) Q E { s with toks := tk0 }
section
variable {prog : Program} {w : World} {A : Around} {env : Env} {s : Shared} {e b : Expr} {pos : Pos}
theorem gv_int {i : Int} {j : Nat} : Gv prog w A env (.Constant (.int i) j pos) s (fun u => ∃ t, u = .int i t) := fun _ _ _ h => wpAny_Constant_int (h _ _ ⟨_, rfl⟩)
theorem gv_neg {i : Int} (ha : Gv prog w A env e s (fun u => ∃ t, u = .int i t)) : Gv prog w A env (.UnaryOp .USub e pos) s (fun u => ∃ t, u = .int (-i) t) := fun tk0 Q E h =>
  PyProof.Rows.UnaryOp_ (ha tk0 _ _ fun u tk ⟨t, e⟩ => by rw [e]; exact neg_int (h _ _ ⟨_, rfl⟩))
theorem gv_loc {x : Str} {m : Str → Option Value} {v : Value} (hk : env.scope.kind = .function) (hl : env.kindOf x = some .local) (hn : s.heap.Ns env.locals m) (hv : m x = some v) (hd : (x == ("__debug__" : Str)) = false := by decide) : Gv prog w A env (.Name x pos) s (fun u => u = v) := fun tk0 Q E h =>
  wpAny_Name (wpAny_loadName_local (s := { s with toks := tk0 }) hk hl hn hv (h v tk0 rfl)) hd
theorem gv_free {x : Str} {c : Addr} {v : Value} (hk : env.scope.kind = .function) (hl : env.kindOf x = some .free) (hc : env.cells.lookup x = some c) (hv : s.heap.IsCell c (some v)) (hd : (x == ("__debug__" : Str)) = false := by decide) (hcd : (x == ("__classdict__" : Str)) = false := by decide) : Gv prog w A env (.Name x pos) s (fun u => u = v) := fun tk0 Q E h =>
  wpAny_Name (wpAny_loadName_free (s := { s with toks := tk0 }) hk hl hc hv (h v tk0 rfl) hcd) hd
theorem gv_ixT {t : Addr} {its : List Value} {i : Int} {v : Value} (ha : Gv prog w A env e s (fun u => u = .ref t)) (hb : Gv prog w A env b s (fun u => ∃ t, u = .int i t)) (pl : IsTup s.heap t its.toArray) (hz : its.length ≤ sizeLine) (hv : atI its i = some v) (hs : PlainIx b) : Gv prog w A env (.Subscript e b pos) s (fun u => u = v) := fun tk0 Q E h => by
  refine PyProof.Rows.Subscript_ (ha tk0 _ _ fun u tk eu => hb tk _ _ fun u2 tk2 ⟨t2, e2⟩ => ?_)
  subst eu
  subst e2
  obtain ⟨j, h1, h2, h3, h4, h5⟩ := atI_get hv
  have hn := line63
  exact subscriptTail_builtinR (x := v) pl.typeIs slot_tuple_getitem.lookup (getItem_tuple (s := { s with toks := tk2 }) (j := j) (Q := fun r s' => r = v ∧ Q r s') pl (by omega) (by omega) (by rw [List.size_toArray]; exact h1) (by simpa using h2) ⟨rfl, h v tk2 rfl⟩) (hs _ _)
theorem gv_ixL {t : Addr} {its : List Value} {i : Int} {v : Value} (ha : Gv prog w A env e s (fun u => u = .ref t)) (hb : Gv prog w A env b s (fun u => ∃ t, u = .int i t)) (pl : PlainL s.heap t its.toArray) (hz : its.length ≤ sizeLine) (hv : atI its i = some v) (hs : PlainIx b) : Gv prog w A env (.Subscript e b pos) s (fun u => u = v) := fun tk0 Q E h => by
  refine PyProof.Rows.Subscript_ (ha tk0 _ _ fun u tk eu => hb tk _ _ fun u2 tk2 ⟨t2, e2⟩ => ?_)
  subst eu
  subst e2
  obtain ⟨j, h1, h2, h3, h4, h5⟩ := atI_get hv
  have hn := line63
  by_cases h0 : 0 ≤ i
  · have hj : i.toNat = j := by
      rw [seqIndex_of h0 h5] at h1
      exact Option.some.inj h1
    exact item_listR (s := { s with toks := tk2 }) pl.isList h0 (by omega) (by rw [hj]; simpa using h2) (h v tk2 rfl) (hs _ _)
  · have hj : (i + (its.toArray.size : Int)).toNat = j := by
      rw [seqIndex_neg (by omega) h4] at h1
      rw [List.size_toArray]
      exact Option.some.inj h1
    exact subscriptTail_builtinR (x := v) pl.isList.typeIs slot_list_getitem.lookup
      (wpAny_getItem_list_neg (s := { s with toks := tk2 }) (Q := fun r s' => r = v ∧ Q r s') pl.isList (by omega) (by rw [List.size_toArray] <;> omega) (by omega) (by rw [hj]; simpa using h2) ⟨rfl, h v tk2 rfl⟩) (hs _ _)
end
/-! ### the keys -/
theorem vals_at {xs : List V} {us : List Value} (r : Vals xs us) {i : Int} {x : V} (h : atI xs i = some x) : ∃ u, atI us i = some u ∧ RelV x u := by
  unfold atI at h ⊢
  rw [← r.length]
  cases e : ixN xs.length i with
  | none => rw [e] at h; cases h
  | some j =>
    rw [e] at h
    exact r.get h
section
variable {X : Cx} {scope : Scope} {a : Str} {p1 p2 p3 p4 p5 p6 p7 p8 p9 : Pos} {j1 j2 j3 : Nat}
/-- lambda a: (a[0], a[1]) -/
def KfPair (K : PySem.W.Frag) : L2.St → Hp → V → PyData → Prop := fun _ H x d => ∃ (t : Addr) (xs : List V) (i j : Int), x = .ref t ∧ SqT K H t xs ∧ atI xs 0 = some (.int i) ∧ atI xs 1 = some (.int j) ∧ d = .tuple [.int i, .int j]
theorem key_pair {x1 : Nat} (LP : LamP X.env.scope scope a) (hd : (a == ("__debug__" : Str)) = false) : KeyBody X scope a (.Tuple [.Subscript (.Name a p1) (.Constant (.int 0) j1 p2) p3, .Subscript (.Name a p4) (.Constant (.int 1) j2 p5) p6] x1 p7) (KfPair X.K) := by
  intro pins σ H s s1 A L f c' v x d I kp hn r h
  obtain ⟨t, xs, i, j, rfl, hS, e0, e1, rfl⟩ := h
  have I1 : Inv X pins σ H { s with heap := s1.heap, toks := s.toks } := I.kept kp
  obtain ⟨its, rv, pl, hz⟩ := I1.tuple hS
  obtain ⟨u0, a0, t0, rfl⟩ := vals_at rv e0
  obtain ⟨u1, a1, t1, rfl⟩ := vals_at rv e1
  cases r
  have hz' : its.length ≤ sizeLine := by rw [← rv.length]; exact hz
  have nm : ∀ p, Gv X.prog X.w A (lamEnv X scope L f c') (.Name a p) s1 (fun u => u = .ref t) := fun p => gv_loc LP.kind LP.par hn (by simp) hd
  refine wpAny_Tuple_spliced ?_
  show wpAny _ _ (spliced [(false, eval (.Subscript (.Name a p1) (.Constant (.int 0) j1 p2) p3) (lamEnv X scope L f c')), (false, eval (.Subscript (.Name a p4) (.Constant (.int 1) j2 p5) p6) (lamEnv X scope L f c'))]) _ _ s1
  refine Calls.spliced_cons (gv_ixT (nm p1) gv_int pl hz' a0 (fun _ _ => rfl) s1.toks _ _ fun u tk eu => Calls.spliced_cons (gv_ixT (nm p4) gv_int pl hz' a1 (fun _ _ => rfl) tk _ _ fun u2 tk2 eu2 => Calls.spliced_nil ⟨(by show 2 ≤ sizeLine; decide), ?_⟩))
  subst eu
  subst eu2
  exact ⟨_, tk2, rfl, fun b o e => Heap.get?_push_of_some _ e, .tuple (Heap.get?_push_size _ rfl) rfl rfl (.cons (.int _ _) (.cons (.int _ _) .nil))⟩
/-- what is captured at slot i, as the lambda reads it -/
theorem cap_at {i : Nat} {y : Str} {v : V} {pins : List (Addr × Obj)} {σ : L2.St} {H : Hp} {s : Shared} (I : Inv X pins σ H s) (LP : LamP X.env.scope scope a) (hN : X.N[i]? = some y) (hc : X.env.scope.names.lookup y = some .cell) (hy : scope.names.lookup y = some .free) (hv : σ[i]? = some (some v)) :
    ∃ c u, (cloFrom X.env.cells scope.names []).lookup y = some c ∧ s.heap.IsCell c (some u) ∧ RelV v u := by
  obtain ⟨m, hn, look⟩ := I.loc
  obtain ⟨u, r, l⟩ := look i y v hN hv (.inr (.inl hc))
  rcases l with ⟨z, _⟩ | ⟨_, c, e, hcell⟩
  · rw [show X.env.kindOf y = some .cell from hc] at z
    cases z
  · obtain ⟨c2, h2⟩ := mem_lookup (cloFrom_has (cells := X.env.cells) (acc := []) (PySem.mem_of_lookup hy))
    refine ⟨c2, u, h2, ?_, r⟩
    rcases cloFrom_mem (PySem.mem_of_lookup h2) with hm | ⟨_, w⟩
    · cases hm
    · have w2 : c2 = c := by rw [w, e]; rfl
      rw [w2]
      exact hcell
/-- lambda a: y[a][1], y captured: a list of tuples -/
def KfAt1 (K : PySem.W.Frag) (i : Nat) : L2.St → Hp → V → PyData → Prop := fun σ H x d => ∃ (l t : Addr) (ls ts : List V) (n k : Int), σ[i]? = some (some (.ref l)) ∧ x = .int n ∧ SqL K H l ls ∧ atI ls n = some (.ref t) ∧ SqT K H t ts ∧ atI ts 1 = some (.int k) ∧ d = .int k
theorem key_at1 {i : Nat} {y : Str} (LP : LamP X.env.scope scope a) (hN : X.N[i]? = some y) (hc : X.env.scope.names.lookup y = some .cell) (hy : scope.names.lookup y = some .free) (hd : (a == ("__debug__" : Str)) = false) (hd2 : (y == ("__debug__" : Str)) = false) (hcd : (y == ("__classdict__" : Str)) = false) :
    KeyBody X scope a (.Subscript (.Subscript (.Name y p1) (.Name a p2) p3) (.Constant (.int 1) j1 p4) p5) (KfAt1 X.K i) := by
  intro pins σ H s s1 A L f c' v x d I kp hn r h
  obtain ⟨l, t, ls, ts, n, k, hv, rfl, hS, e0, hT, e1, rfl⟩ := h
  obtain ⟨tn, rfl⟩ := r
  have I1 : Inv X pins σ H { s with heap := s1.heap, toks := s.toks } := I.kept kp
  obtain ⟨c, u, g1, g2, g3⟩ := cap_at I1 LP hN hc hy hv
  cases g3
  obtain ⟨its, rv, pl, hz⟩ := I1.list hS
  obtain ⟨jts, rw', pt, hz2⟩ := I1.tuple hT
  obtain ⟨u0, a0, w0⟩ := vals_at rv e0
  cases w0
  obtain ⟨u1, a1, t1, rfl⟩ := vals_at rw' e1
  have ny : ∀ p, Gv X.prog X.w A (lamEnv X scope L f c') (.Name y p) s1 (fun u => u = .ref l) := fun p => gv_free LP.kind hy g1 g2 hd2 hcd
  have na : ∀ p, Gv X.prog X.w A (lamEnv X scope L f c') (.Name a p) s1 (fun u => ∃ t, u = .int n t) := fun p tk0 Q E h => (gv_loc (pos := p) LP.kind LP.par hn (by simp) hd : Gv X.prog X.w A (lamEnv X scope L f c') (.Name a p) s1 (fun u => u = .int n tn)) tk0 Q E fun u tk eu => h u tk ⟨tn, eu⟩
  refine gv_ixT (gv_ixL (ny p1) (na p2) pl (by rw [← rv.length]; exact hz) a0 (fun _ _ => rfl)) gv_int pt (by rw [← rw'.length]; exact hz2) a1 (fun _ _ => rfl) s1.toks _ _ fun u tk eu => ?_
  subst eu
  exact ⟨s1.heap, tk, rfl, fun _ _ e => e, .int _ _⟩
/-- lambda a: y[a][-1][1], y captured: a list of lists of tuples -/
def KfLast1 (K : PySem.W.Frag) (i : Nat) : L2.St → Hp → V → PyData → Prop := fun σ H x d => ∃ (l m t : Addr) (ls ms ts : List V) (n k : Int), σ[i]? = some (some (.ref l)) ∧ x = .int n ∧ SqL K H l ls ∧ atI ls n = some (.ref m) ∧ SqL K H m ms ∧ atI ms (-1) = some (.ref t) ∧ SqT K H t ts ∧ atI ts 1 = some (.int k) ∧ d = .int k
theorem key_last1 {i : Nat} {y : Str} (LP : LamP X.env.scope scope a) (hN : X.N[i]? = some y) (hc : X.env.scope.names.lookup y = some .cell) (hy : scope.names.lookup y = some .free) (hd : (a == ("__debug__" : Str)) = false) (hd2 : (y == ("__debug__" : Str)) = false) (hcd : (y == ("__classdict__" : Str)) = false) :
    KeyBody X scope a (.Subscript (.Subscript (.Subscript (.Name y p1) (.Name a p2) p3) (.UnaryOp .USub (.Constant (.int 1) j2 p6) p7) p8) (.Constant (.int 1) j1 p4) p5) (KfLast1 X.K i) := by
  intro pins σ H s s1 A L f c' v x d I kp hn r h
  obtain ⟨l, m, t, ls, ms, ts, n, k, hv, rfl, hS, e0, hM, em, hT, e1, rfl⟩ := h
  obtain ⟨tn, rfl⟩ := r
  have I1 : Inv X pins σ H { s with heap := s1.heap, toks := s.toks } := I.kept kp
  obtain ⟨c, u, g1, g2, g3⟩ := cap_at I1 LP hN hc hy hv
  cases g3
  obtain ⟨its, rv, pl, hz⟩ := I1.list hS
  obtain ⟨kts, rk, pk, hz3⟩ := I1.list hM
  obtain ⟨jts, rw', pt, hz2⟩ := I1.tuple hT
  obtain ⟨u0, a0, w0⟩ := vals_at rv e0
  cases w0
  obtain ⟨u2, a2, w2⟩ := vals_at rk em
  cases w2
  obtain ⟨u1, a1, t1, rfl⟩ := vals_at rw' e1
  have ny : ∀ p, Gv X.prog X.w A (lamEnv X scope L f c') (.Name y p) s1 (fun u => u = .ref l) := fun p => gv_free LP.kind hy g1 g2 hd2 hcd
  have na : ∀ p, Gv X.prog X.w A (lamEnv X scope L f c') (.Name a p) s1 (fun u => ∃ t, u = .int n t) := fun p tk0 Q E h => (gv_loc (pos := p) LP.kind LP.par hn (by simp) hd : Gv X.prog X.w A (lamEnv X scope L f c') (.Name a p) s1 (fun u => u = .int n tn)) tk0 Q E fun u tk eu => h u tk ⟨tn, eu⟩
  refine gv_ixT (gv_ixL (gv_ixL (ny p1) (na p2) pl (by rw [← rv.length]; exact hz) a0 (fun _ _ => rfl)) (gv_neg gv_int) pk (by rw [← rk.length]; exact hz3) a2 (fun _ _ => rfl)) gv_int pt (by rw [← rw'.length]; exact hz2) a1 (fun _ _ => rfl) s1.toks _ _ fun u tk eu => ?_
  subst eu
  exact ⟨s1.heap, tk, rfl, fun _ _ e => e, .int _ _⟩
end

open LamX
/-! ### sorted(range(n), key=lambda a: ..) -/
theorem cr_range1 {X : Cx} : CallR X (.type "range") (fun vs H Q => ∃ j, vs = [V.int j] ∧ ∀ p, H p = none → Q (.ref p) (upd H p (.rng 0 j))) := fun pins s σ H vs us Q I r h => by
  obtain ⟨j, rfl, q⟩ := h
  obtain ⟨u, rfl, t, rfl⟩ := vals1 r
  refine call_range_1 ⟨.ref s.heap.objs.size, upd H s.heap.objs.size (.rng 0 j), I.laid (t' := s.toks + 1 + 1) (fun b o e => Heap.get?_push_of_some _ e) (Nat.le_refl _) ?_, rfl, q _ (I.hok.fresh (Nat.le_refl _))⟩
  exact ⟨s.toks, t, s.toks + 1, Heap.get?_push_size _ rfl⟩
abbrev rngV (n : Nat) : List V := (List.range n).map fun i : Nat => V.int (i : Int)
theorem vals_of : ∀ {xs : List V} {us : List Value}, xs.length = us.length → (∀ (j : Nat) x u, xs[j]? = some x → us[j]? = some u → RelV x u) → Vals xs us
  | [], [], _, _ => .nil
  | [], _ :: _, h, _ => nomatch h
  | _ :: _, [], h, _ => nomatch h
  | x :: xs, u :: us, h, r => .cons (r 0 x u rfl rfl) (vals_of (Nat.succ.inj h) fun j y w e1 e2 => r (j + 1) y w e1 e2)
section
variable {prog : Program} {w : World} {A : Around} {E : Value → Shared → Prop} {s : Shared}
theorem sorted_key_range {r : Addr} {f : Addr} {n : Nat} {t u v : Tok} {Q : Value → Shared → Prop} (k : V → PyData) (hh : A.handled = none) (hr : IsRange s.heap r 0 (n : Int) 1 t u v) (hn : n ≤ 10000) (hal : PySem.W.AllAlike ((rngV n).map k)) (hk : PySem.W.Sortable ((rngV n).map k))
    (hu : ∀ x, x ∈ rngV n → A.units + 2 + (k x).depth < cLine)
    (turn : ∀ (v : Value) (x : V), RelV x v → x ∈ rngV n → ∀ (h : Heap) (tk : Nat), (∀ b o, s.heap.get? b = some o → h.get? b = some o) →
      wpAny (model prog w) A.in1.in1 (call (.ref f) [v]) (PySem.W.KeyPure (k x) { s with heap := h, toks := tk }) (fun _ _ => False) { s with heap := h, toks := tk })
    (h : ∀ p out c h' tk, s.heap.get? p = none → (∀ b o, s.heap.get? b = some o → h'.get? b = some o) → h'.get? p = some (seqObj "list" (List.toArray out) c) → Vals ((rngV n).mergeSort (PySem.W.dataLe false k)) out →
      Q (.ref p) { s with heap := h', toks := tk }) :
    wpAny (model prog w) A (call (.builtin "sorted") [.ref r] [(Str.ofString "key", .ref f)]) Q E s := by
  refine call_function_entry_kw kind_sorted plain_sorted entry_sorted (PyProof.Rows.ksk_s1 _ _) ?_
  unfold Builtin.«sorted»
  refine wpAny_bind (m := checkCount "sorted" 1 1 _) (wpAny_pure ?_)
  refine wpAny_bind (collect_range (n := n) (A := A.in1) hh hr ?_ ?_ (by omega) fun h1 tk1 acc k1 hi => ?_)
  · exact small_one (by decide) (by decide) (by omega) (by omega)
  · rw [rangeSize_one]
    split <;> omega
  · have hL : acc.toList.length ≤ sizeLine := by rw [Array.length_toList, hi.1]; exact Nat.le_trans hn (by decide)
    refine wpAny_bind (wpAny_newList ?_ hL)
    refine wpAny_bind (wpAny_holding (wpAny_call_entry_kw slot_list_sort ⟨_, Heap.get?_push_size _ rfl, rfl⟩ entry_list_sort ?body (PyProof.Rows.ksk_l1 _ _)))
    case body =>
      rw [PyProof.Rows.ksk_t1]
      have ev : PySem.W.EachIs (fun v x => RelV x v) acc.toList (rngV n) := by
        refine each_vals (vals_of (by rw [List.length_map, List.length_range, Array.length_toList, hi.1]) fun j x u e1 e2 => ?_)
        obtain ⟨t, rfl⟩ := hi.2 j u (by simpa using e2)
        rw [List.getElem?_map] at e1
        cases e3 : (List.range n)[j]? with
        | none => rw [e3] at e1; cases e1
        | some m =>
          rw [e3] at e1
          cases e1
          have : m = j := by
            have := List.getElem?_eq_some_iff.mp e3
            obtain ⟨hj, e⟩ := this
            rw [List.getElem_range] at e
            exact e.symm
          subst this
          exact ⟨t, by simp⟩
      have fr : ∀ b o, s.heap.get? b = some o → b ≠ h1.objs.size := fun b o e => Nat.ne_of_lt (Heap.lt_size (k1 b o e))
      refine PySem.W.keyH_tree (b := false) (vs := acc.toList) (kz := (rngV n).map k) (s := { s with heap := h1.push (seqObj "list" acc.toList.toArray 0), toks := tk1 }) (Heap.get?_push_size _ rfl) (by rw [List.length_map]; exact ev.length.symm) hL hal hk (fun d hd => by obtain ⟨x, hx, rfl⟩ := List.mem_map.mp hd; exact hu x hx)
        (PySem.W.keyH_turns (h₁ := h1.push (seqObj "list" acc.toList.toArray 0)) (s := { s with heap := h1.push (seqObj "list" acc.toList.toArray 0), toks := tk1 }) ev fun v x hR hx h' tk kp => turn v x hR hx h' tk fun b o e => kp b o (fr b o e) (Heap.get?_push_of_some _ (k1 b o e))) fun h' tk out c kp hD ko => ?_
      refine ⟨.none, rfl, wpAny_pure ⟨_, rfl, ?_⟩⟩
      have nn : s.heap.get? h1.objs.size = none := by
        cases e : s.heap.get? h1.objs.size with
        | none => rfl
        | some o => exact absurd rfl (fr _ _ e)
      exact h h1.objs.size out c h' tk nn (fun b o e => kp b o (fr b o e) (Heap.get?_push_of_some _ (k1 b o e))) hD (vals_each (PySem.W.keyedOut_each k ko ev))
end

def tSortLR (P : Addr) (q : Str) (Kf : L2.St → Hp → V → PyData → Prop) (t : TA) : TE := fun σ H Q => t σ H fun vs H1 => TabS H1 P q ∧ ∃ (a : Addr) (n : Nat) (k : V → PyData), vs = [.ref a] ∧ H1 a = some (.rng 0 (n : Int)) ∧ n ≤ 10000 ∧
  PySem.W.AllAlike ((rngV n).map k) ∧ PySem.W.Sortable ((rngV n).map k) ∧ (∀ x ∈ rngV n, (k x).depth ≤ 8) ∧ (∀ x ∈ rngV n, ∀ H2, TbL P q H1 H2 → Kf σ H2 x (k x)) ∧ ∀ H2 p, TbL P q H1 H2 → H2 p = none → Q (.ref p) (upd H2 p (.lst ((rngV n).mergeSort (PySem.W.dataLe false k))))
section
variable {X : Cx} {c P : Addr} {e : Expr} {t : TA} {params : Arguments} {body : Expr} {scope : Scope} {a : Str} {lpos kpos p pos : Pos} {Kf : L2.St → Hp → V → PyData → Prop}
theorem pe_sortedLR (TB : LamX.TabB X.base X.mg c P) (hcode : X.env.code = .ref c) (hg : Gl X "sorted") (hm : X.mg "sorted" = none) (hr : Room 3 X.A) (ha : PA X [e] t) (hdef : defaultsOf params X.env = ([], [])) (LP : LamP X.env.scope scope a)
    (hbind : ∀ (v pm ctv : Value) (c' : Addr), bindArgs (PySem.W.kla_fn "<lambda>" (X.env.qual ++ "<lambda>") params body scope (cloFrom X.env.cells scope.names []) pm (.ref c') ctv) ⟨[v], []⟩ = pure [(a, v)])
    (hkey : KeyBody X scope a body Kf) (h1 : backTo pos (starEach [e] X.env) = (false, eval e X.env) :: backTo pos (starEach [] X.env) := by rfl) (h2 : (backTo pos (starEach [e] X.env)).any (·.1) = false := by rfl) :
    PE X (.Call (.Name "sorted" p) [e] [⟨some "key", .Lambda params body scope lpos, kpos⟩] pos) (tSortLR P (X.env.qual ++ "<lambda>") Kf t) := by
  refine ⟨fun pins s σ H Q I h => ?_⟩
  refine wpAny_Call_Name_kw (ld_blt I hg hm (show bootBuiltins "sorted" = some (.builtin "sorted") by decide +kernel) ?_ (by decide) (by decide))
  refine PyProof.Rows.callWith_kw (thn (ha.run pos pins s σ H _ I h) fun us s1 ⟨vs, H1, I1, r1, hT, aL, n, k, ev, hS, hn, hal, hso, hdp, hkf, q1⟩ => ?_) h1 h2 rfl rfl
  subst ev
  obtain rfl := Vals.ref1 r1
  show wpAny _ _ (evalAll [do let v ← eval (.Lambda params body scope lpos) X.env; standAt pos; pure v]) _ _ s1
  have hfree : ∀ y ∈ scope.names, y.2 = .free → ∃ c, X.env.cells.lookup y.1 = some c := fun y hy e => by
    rcases LP.free y hy e with z | z
    · exact I.ok.has _ (.inl z)
    · exact I.ok.has _ (.inr z)
  refine wpAny_evalAll_cons (wpAny_bind (lam_make2 (T := [(P, X.env.qual ++ "<lambda>")]) I1 TB hcode (List.mem_cons_self ..) (fun p hp _ => by rw [List.mem_singleton.mp hp]) (fun p hp => by rw [List.mem_singleton.mp hp]; exact hT) hdef hfree
    fun f c' pm ctv H2 s2 I2 x2 T2 hf nf ff hc => wpAny_bind (wpAny_standAt (wpAny_pure (wpAny_evalAll_nil ?_)))))
  have tb2 : TbL P (X.env.qual ++ "<lambda>") H1 H2 := ⟨T2 _ (List.mem_cons_self ..), x2⟩
  have hS2 : H2 aL = some (.rng 0 (n : Int)) := x2 _ _ hS (fun _ w => nomatch w)
  obtain ⟨t0, t1, t2, hra⟩ := (show ObjOk X.prog X.w H2 s2.heap aL (.rng 0 (n : Int)) from I2.hok aL _ hS2)
  show wpAny _ _ (call (.builtin "sorted") [.ref aL] [(Str.ofString "key", .ref f)]) _ _ s2
  have hun := hr.un
  refine sorted_key_range k hr.hd hra hn hal hso (fun x hx => by have := hdp x hx; omega) (fun v x hR hx h tk kp => ?_) (fun pn out c h' tk n0 kp ho eo => ?_)
  · have I3 : Inv X pins σ H2 { s2 with heap := h, toks := tk } := I2.kept kp
    have hf3 := kp _ _ hf
    obtain ⟨⟨oc, vs', t', hoc, hdc, hvc⟩, _, _⟩ := I2.hok c' _ hc
    have hr2 : Room 1 X.A.in1.in1 := hr.in1.in1
    refine wpAny_call (codeAny_mono (R := fun r s' => ∃ u, r = .ok (.ret u) ∧ PySem.W.KeyPure (k x) { s2 with heap := h, toks := tk } u s') ?_ fun r s' hq => ?_)
    · refine PySem.W.kla_callFunE (by have := hr2.dp; omega) hf3 rfl LP.co LP.gen rfl ⟨c', oc, vs', t', rfl, kp _ _ hoc, hdc, hvc⟩ ?_
      rw [hbind]
      refine wpAny_pure (wpAny_newFunctionEnv (fun y hy => LP.own y hy) (fun y hy => by rw [List.mem_singleton.mp hy]; exact LP.par) (fun h₁ hns hsb => ⟨I3.nolimit.fresh _ hsb, ?_⟩) LP.kind)
      have kp1 : ∀ b o, h.get? b = some o → h₁.get? b = some o := fun b o e => hsb.extBut b o (Nat.ne_of_lt (Heap.lt_size e)) (Heap.get?_push_of_some _ e)
      show codeAny _ _ (.expr body (lamEnv X scope h.objs.size f c')) _ _
      refine PySem.W.kla_codeExpr (wpAny_mono (hkey pins σ H2 { s2 with heap := h, toks := tk } { s2 with heap := h₁, toks := tk + 1 } _ h.objs.size f c' v x (k x) I3 kp1 hns hR (hkf x hx H2 tb2)) (fun u s' hq => ?_) fun _ _ z => z.elim)
      obtain ⟨h5, tk5, rfl, k5, rd⟩ := hq
      exact ⟨u, rfl, h5, tk5, rfl, fun b o e => k5 b o (kp1 b o e), rd⟩
    · obtain ⟨u, rfl, hk⟩ := hq
      exact hk
  · have hlen : ((rngV n).mergeSort (PySem.W.dataLe false k)).length ≤ sizeLine := by rw [List.length_mergeSort, List.length_map, List.length_range]; exact Nat.le_trans hn (by decide)
    have np : H2 pn = none := HOk.gone (show HOk X.prog X.w H2 s2.heap from I2.hok) n0
    exact ⟨.ref _, upd H2 pn (.lst ((rngV n).mergeSort (PySem.W.dataLe false k))), Inv.laidN (t' := tk) I2 kp n0 np ⟨hlen, _, c, eo, ho⟩, rfl, q1 H2 _ tb2 np⟩
end

theorem nodup_len {α : Type} [DecidableEq α] : ∀ {l m : List α}, l.Nodup → (∀ x ∈ l, x ∈ m) → l.length ≤ m.length
  | [], _, _, _ => Nat.zero_le _
  | x :: r, m, nd, h => by
    have nx := (List.nodup_cons.mp nd).1
    have ih := nodup_len (m := m.erase x) (List.nodup_cons.mp nd).2 fun y hy => by
      have hne : y ≠ x := fun e => nx (e ▸ hy)
      exact (List.mem_erase_of_ne hne).mpr (h y (List.mem_cons_of_mem _ hy))
    have e := List.length_erase_of_mem (h x (List.mem_cons_self ..))
    have pos : 0 < m.length := List.length_pos_of_mem (h x (List.mem_cons_self ..))
    rw [List.length_cons]
    omega

/-! ### samples: what is fewest -/
theorem ris_last {lo : Int} : ∀ {rs : List (Int × Int)} {q : Int × Int}, Ris lo (rs ++ [q]) → ∀ n, InS (rs ++ [q]) n → n ≤ q.2 := fun {rs q} h n hn => by
  obtain ⟨_, h2, _, h4⟩ := Ris.front h
  rcases inS_append.mp hn with ⟨p, hp, e1, e2⟩ | ⟨p, hp, e1, e2⟩
  · have := h2 p hp; omega
  · rw [List.mem_singleton.mp hp] at e2; exact e2
/-- the least and the greatest of a set -/
theorem told_ends {pr : Int → Prop} {rs : List (Int × Int)} (h : Told pr rs) (hne : rs ≠ []) : ∃ p q : Int × Int, rs[0]? = some p ∧ rs[rs.length - 1]? = some q ∧ pr p.1 ∧ pr q.2 ∧ ∀ n, pr n → p.1 ≤ n ∧ n ≤ q.2 := by
  obtain ⟨lo, hr⟩ := h.ris
  have hl := List.dropLast_concat_getLast hne
  cases rs with
  | nil => exact absurd rfl hne
  | cons p r =>
    refine ⟨p, (p :: r).getLast hne, rfl, ?_, ?_, ?_, fun n hn => ?_⟩
    · rw [← List.getLast?_eq_getElem?, List.getLast?_eq_some_getLast hne]
    · exact (h.same _).mp ⟨p, List.mem_cons_self .., Int.le_refl _, hr.2.1⟩
    · refine (h.same _).mp ⟨_, List.getLast_mem hne, ?_, Int.le_refl _⟩
      rw [← hl] at hr
      exact (Ris.front hr).2.2.2
    · have hi := (h.same n).mpr hn
      refine ⟨?_, ?_⟩
      · rcases inS_cons.mp hi with z | z
        · exact z.1
        · have := hr.2.2.low z
          have := hr.2.1
          omega
      · rw [← hl] at hr hi
        exact ris_last hr n hi
theorem told_nil {pr : Int → Prop} {rs : List (Int × Int)} (h : Told pr rs) : rs = [] ↔ ∀ n, ¬ pr n := by
  constructor
  · intro e n hn
    have := (h.same n).mpr hn
    rw [e] at this
    exact inS_nil this
  · intro hn
    cases rs with
    | nil => rfl
    | cons p r =>
      obtain ⟨lo, hr⟩ := h.ris
      exact absurd ((h.same p.1).mp ⟨p, List.mem_cons_self .., Int.le_refl _, hr.2.1⟩) (hn _)
/-- the numbers taken so far, the runs that asked for them -/
structure Gr (L : Nat → Int × Int) (os : List Nat) (ns : List Int) (ch : List Nat) : Prop where
  map : ns = ch.map fun i => (L i).2
  sub : ∀ i ∈ ch, i ∈ os
  chain : ch.Pairwise fun i j => (L i).2 < (L j).1
  hit : ∀ i ∈ os, ∃ e ∈ ns, (L i).1 ≤ e ∧ e ≤ (L i).2
  inc : ns.Pairwise (· < ·)
theorem Gr.nil (L : Nat → Int × Int) : Gr L [] [] [] := ⟨rfl, (fun _ h => nomatch h), .nil, (fun _ h => nomatch h), .nil⟩
theorem Gr.skip {L : Nat → Int × Int} {os : List Nat} {ns : List Int} {ch : List Nat} {i : Nat} {e : Int} (g : Gr L os ns ch) (hm : ∀ j ∈ os, (L j).2 ≤ (L i).2) (he : e ∈ ns) (hi : (L i).1 ≤ e) : Gr L (os ++ [i]) ns ch := by
  refine ⟨g.map, fun j hj => List.mem_append_left _ (g.sub j hj), g.chain, fun j hj => ?_, g.inc⟩
  rcases List.mem_append.mp hj with z | z
  · exact g.hit j z
  · rw [List.mem_singleton.mp z]
    refine ⟨e, he, hi, ?_⟩
    rw [g.map] at he
    obtain ⟨j, hj, rfl⟩ := List.mem_map.mp he
    exact hm j (g.sub j hj)
theorem Gr.take {L : Nat → Int × Int} {os : List Nat} {ns : List Int} {ch : List Nat} {i : Nat} (g : Gr L os ns ch) (hi : (L i).1 ≤ (L i).2) (lt : ∀ e ∈ ns, e < (L i).1) : Gr L (os ++ [i]) (ns ++ [(L i).2]) (ch ++ [i]) := by
  refine ⟨by rw [g.map, List.map_append]; rfl, fun j hj => ?_, ?_, fun j hj => ?_, ?_⟩
  · rcases List.mem_append.mp hj with z | z
    · exact List.mem_append_left _ (g.sub j z)
    · exact List.mem_append_right _ z
  · rw [List.pairwise_append]
    refine ⟨g.chain, List.pairwise_singleton _ _, fun a ha b hb => ?_⟩
    rw [List.mem_singleton.mp hb]
    exact lt _ (by rw [g.map]; exact List.mem_map_of_mem ha)
  · rcases List.mem_append.mp hj with z | z
    · obtain ⟨e, he, h1⟩ := g.hit j z
      exact ⟨e, List.mem_append_left _ he, h1⟩
    · rw [List.mem_singleton.mp z]
      exact ⟨_, List.mem_append_right _ (List.mem_singleton.mpr rfl), hi, Int.le_refl _⟩
  · rw [List.pairwise_append]
    refine ⟨g.inc, List.pairwise_singleton _ _, fun a ha b hb => ?_⟩
    rw [List.mem_singleton.mp hb]
    have := lt a ha
    omega
theorem chain_some {L : Nat → Int × Int} {row : List Int} : ∀ {ch : List Nat}, ch.Pairwise (fun i j => (L i).2 < (L j).1) → (∀ i ∈ ch, ∃ e ∈ row, (L i).1 ≤ e ∧ e ≤ (L i).2) → ∃ es : List Int, es.length = ch.length ∧ (∀ e ∈ es, e ∈ row) ∧ es.Pairwise (· < ·) ∧ ∀ e ∈ es, ∃ i ∈ ch, (L i).1 ≤ e
  | [], _, _ => ⟨[], rfl, (fun _ h => nomatch h), .nil, (fun _ h => nomatch h)⟩
  | i :: ch, hc, h => by
    obtain ⟨h1, h2⟩ := List.pairwise_cons.mp hc
    obtain ⟨es, l, a, b, c⟩ := chain_some h2 fun j hj => h j (List.mem_cons_of_mem _ hj)
    obtain ⟨e, he, e1, e2⟩ := h i (List.mem_cons_self ..)
    refine ⟨e :: es, by rw [List.length_cons, List.length_cons, l], fun x hx => ?_, List.pairwise_cons.mpr ⟨fun x hx => ?_, b⟩, fun x hx => ?_⟩
    · rcases List.mem_cons.mp hx with z | z
      · rw [z]; exact he
      · exact a x z
    · obtain ⟨j, hj, lj⟩ := c x hx
      have := h1 j hj
      omega
    · rcases List.mem_cons.mp hx with z | z
      · exact ⟨i, List.mem_cons_self .., by rw [z]; exact e1⟩
      · obtain ⟨j, hj, lj⟩ := c x z
        exact ⟨j, List.mem_cons_of_mem _ hj, lj⟩
theorem Gr.low {L : Nat → Int × Int} {os : List Nat} {ns : List Int} {ch : List Nat} (g : Gr L os ns ch) {row : List Int} (h : ∀ i ∈ os, ∃ e ∈ row, (L i).1 ≤ e ∧ e ≤ (L i).2) : ns.length ≤ row.length := by
  obtain ⟨es, l, a, b, _⟩ := chain_some g.chain fun i hi => h i (g.sub i hi)
  rw [g.map, List.length_map, ← l]
  exact nodup_len (List.Pairwise.imp (fun z => by omega) b) a
/-- every choice among so many numbers -/
def rowsF (fr : List Int) : List (List Int) := fr.foldl (fun some n => some ++ some.map (· ++ [n])) [[]]
theorem rowsF_snoc (fr : List Int) (n : Int) : rowsF (fr ++ [n]) = rowsF fr ++ (rowsF fr).map (· ++ [n]) := by simp [rowsF]
theorem rows_from : ∀ (fr : List Int) (acc : List (List Int)) (row : List Int), row ∈ fr.foldl (fun some n => some ++ some.map (· ++ [n])) acc → ∃ r ∈ acc, ∃ s, row = r ++ s ∧ ∀ e ∈ s, e ∈ fr
  | [], _, row, h => ⟨row, h, [], by simp, fun _ h => nomatch h⟩
  | n :: fr, acc, row, h => by
    obtain ⟨r, hr, s, e, hs⟩ := rows_from fr _ row h
    rcases List.mem_append.mp hr with z | z
    · exact ⟨r, z, s, e, fun x hx => List.mem_cons_of_mem _ (hs x hx)⟩
    · obtain ⟨r', hr', rfl⟩ := List.mem_map.mp z
      refine ⟨r', hr', n :: s, by rw [e]; simp, fun x hx => ?_⟩
      rcases List.mem_cons.mp hx with y | y
      · rw [y]; exact List.mem_cons_self ..
      · exact List.mem_cons_of_mem _ (hs x y)
theorem rows_mem {fr row : List Int} (h : row ∈ rowsF fr) : ∀ e ∈ row, e ∈ fr := by
  obtain ⟨r, hr, s, rfl, hs⟩ := rows_from fr _ row h
  rw [List.mem_singleton.mp hr]
  exact hs
theorem rows_all (p : Int → Bool) : ∀ (fr : List Int) (acc : List (List Int)) (r : List Int), r ∈ acc → r ++ fr.filter p ∈ fr.foldl (fun some n => some ++ some.map (· ++ [n])) acc
  | [], _, r, h => by simpa using h
  | n :: fr, acc, r, h => by
    by_cases hp : p n = true
    · rw [List.filter_cons_of_pos hp, show r ++ n :: fr.filter p = (r ++ [n]) ++ fr.filter p by simp]
      exact rows_all p fr _ _ (List.mem_append_right _ (List.mem_map_of_mem h))
    · rw [List.filter_cons_of_neg hp]
      exact rows_all p fr _ _ (List.mem_append_left _ h)
theorem rows_filter (fr : List Int) (p : Int → Bool) : fr.filter p ∈ rowsF fr := by
  have := rows_all p fr [[]] [] (List.mem_singleton.mpr rfl)
  rw [List.nil_append] at this
  exact this
theorem inc_eq : ∀ {l m : List Int}, l.Pairwise (· < ·) → m.Pairwise (· < ·) → (∀ x, x ∈ l ↔ x ∈ m) → l = m
  | [], [], _, _, _ => rfl
  | [], y :: m, _, _, h => absurd ((h y).mpr (List.mem_cons_self ..)) (List.not_mem_nil)
  | x :: l, [], _, _, h => absurd ((h x).mp (List.mem_cons_self ..)) (List.not_mem_nil)
  | x :: l, y :: m, hl, hm, h => by
    obtain ⟨l1, l2⟩ := List.pairwise_cons.mp hl
    obtain ⟨m1, m2⟩ := List.pairwise_cons.mp hm
    have exy : x = y := by
      rcases List.mem_cons.mp ((h x).mp (List.mem_cons_self ..)) with z | z
      · exact z
      · rcases List.mem_cons.mp ((h y).mpr (List.mem_cons_self ..)) with w | w
        · exact w.symm
        · have := m1 x z
          have := l1 y w
          omega
    subst exy
    rw [inc_eq l2 m2 fun z => ⟨fun hz => ?_, fun hz => ?_⟩]
    · rcases List.mem_cons.mp ((h z).mp (List.mem_cons_of_mem _ hz)) with w | w
      · have := l1 z hz
        omega
      · exact w
    · rcases List.mem_cons.mp ((h z).mpr (List.mem_cons_of_mem _ hz)) with w | w
      · have := m1 z hz
        omega
      · exact w
theorem rows_inc {fr ns : List Int} (hf : fr.Pairwise (· < ·)) (hn : ns.Pairwise (· < ·)) (h : ∀ e ∈ ns, e ∈ fr) : ns ∈ rowsF fr := by
  have e : fr.filter (fun x => decide (x ∈ ns)) = ns := inc_eq (List.Pairwise.filter _ hf) hn fun x => by
    rw [List.mem_filter, decide_eq_true_iff]
    exact ⟨fun z => z.2, fun z => ⟨h x z, z⟩⟩
  rw [← e]
  exact rows_filter fr _
/-- every run has one of the row's numbers -/
def hitsAll (rs : List (Int × Int)) (row : List Int) : Prop := ∀ r ∈ rs, ∃ e ∈ row, r.1 ≤ e ∧ e ≤ r.2

/-! ### the draws of runs and of what is gone -/
theorem ris_filter {pb : Int × Int → Bool} : ∀ {lo : Int} {ps : List (Int × Int)}, Ris lo ps → Ris lo (ps.filter pb)
  | _, [], _ => True.intro
  | lo, p :: r, h => by
    by_cases c : pb p = true
    · rw [List.filter_cons_of_pos c]
      exact ⟨h.1, h.2.1, ris_filter h.2.2⟩
    · rw [List.filter_cons_of_neg c]
      exact ris_filter (h.2.2.mono (by have := h.1; have := h.2.1; omega))
theorem eqv_none {α : Type} (f : α → PyData) (ps : List α) : PyData.eqv (PyData.list (ps.map f)) (PyData.list []) = ps.isEmpty := by
  cases ps with
  | nil => simp [PyData.eqv, PyData.eqvAll]
  | cons p r => simp [PyData.eqv, PyData.eqvAll]
/-- xs != [], of pairs -/
theorem ne_nilP {K : PySem.W.Frag} {H : Hp} {p l : Addr} {ps : List (Int × Int)} {Q : VK} (h : LsA H p ps) (el : H l = some (.lst [])) (q : Q (.bl (!ps.isEmpty)) H) : rNeD K (.ref p) (.ref l) H Q :=
  ⟨_, .list [], h.dp, .lst (SqL.of el) .nil, shaped_prs ps, by rfl, by rw [eqv_none]; exact q⟩
theorem LsA.kp {H H' : Hp} {d c a : Addr} {t : Int} {ps : List (Int × Int)} (h : LsA H a ps) (S : StAt H d c t) (k : Kp d c H H') (n : a ≠ d ∧ a ≠ c) : LsA H' a ps := let ⟨us, e, p⟩ := h; ⟨us, k _ _ n.1 n.2 e, p.kp S k⟩
theorem pick_at {xs : List V} {n : Nat} (hn : xs.length = n) {r : Int} (r0 : 0 ≤ r) (r1 : r < n) : ∃ v, atI xs r = some v ∧ v ∈ xs := by
  obtain ⟨k, rfl⟩ := Int.eq_ofNat_of_zero_le r0
  have lt : k < xs.length := by omega
  exact ⟨_, atI_nat (List.getElem?_eq_getElem lt), List.getElem_mem lt⟩
def spGone : Sp := fun vs H Q _ => ∃ (d c : Addr) (t most rare : Int), vs = [.ref d, .int most, .int rare] ∧ StAt H d c t ∧ t < 2 ^ 58 ∧ 1 ≤ rare ∧ rare ≤ 1000 ∧
  ∀ l gs H' t', H l = none → LsA H' l gs → Ris 0 gs → (∀ p ∈ gs, p.2 ≤ most) → gs.length ≤ 24 → t ≤ t' → t' ≤ t + 200 → StAt H' d c t' → Kp d c H H' → Q (.ref l) H'
def RunOk (most : Int) (rs : List (Int × Int)) : Prop := ∀ r ∈ rs, 0 ≤ r.1 ∧ r.1 ≤ r.2 ∧ r.2 ≤ most
def spRuns : Sp := fun vs H Q _ => ∃ (d c : Addr) (t many most wide : Int), vs = [.ref d, .int many, .int most, .int wide] ∧ StAt H d c t ∧ t < 2 ^ 58 ∧ 0 ≤ many ∧ many ≤ 900 ∧ 0 ≤ most ∧ most ≤ 2 ^ 60 ∧ 1 ≤ wide ∧ wide ≤ 2 ^ 60 ∧
  ∀ l rs H' t', H l = none → LsA H' l rs → RunOk most rs → (rs.length : Int) = many → t ≤ t' → t' ≤ t + 10 * many → StAt H' d c t' → Kp d c H H' → Q (.ref l) H'
abbrev sGone : Stmt := topS 10
theorem scGone : FnScope ["_law_state", "_law_most", "_law_rare", "_law_found", "_law_number", "_law_turn", "_law_last", "_law_pair"] ["_law_state", "_law_most", "_law_rare"] (defScope sGone) := ⟨rfl, rfl, rfl, by decide +kernel, rfl, by decide +kernel, by decide +kernel⟩
abbrev sRuns : Stmt := topS 11
theorem scRuns : FnScope ["_law_state", "_law_many", "_law_most", "_law_wide", "_law_runs_here", "_law_turn", "_law_kind", "_law_first", "_law_last"] ["_law_state", "_law_many", "_law_most", "_law_wide"] (defScope sRuns) := ⟨rfl, rfl, rfl, by decide +kernel, rfl, by decide +kernel, by decide +kernel⟩
section
variable {K : PySem.W.Frag} {mg : Str → Option Value} {P : Program} {w : World} {base : Heap}
theorem ok_Gone {f : Addr} {fd : FuncData} (F : Fun K "_law_gone" "_law_gone" sGone f fd) (C__law_take : Cal P w K mg base 1 "_law_take" ["_law_state", "_law_many"] spTake) (m_range : mg "range" = none) : FnOk P w K mg base CX0 2 f fd ["_law_state", "_law_most", "_law_rare"] spGone := by
  refine F.ok scGone (fun vs H Q E h => ?_) (fun cdv A outer s H vs Q E hr h => ?_)
  · obtain ⟨d, c, t, most, rare, rfl, _⟩ := h
    rfl
  · obtain ⟨d, c, t, most, rare, rfl, hS, ht, r0, r1, q⟩ := h
    refine ⟨_, pss_cons (ps_par rfl scGone.nd (i := 3) (j := 4) rfl rfl (by decide) rfl rfl (pa_cons (pe_lst pa_nil) (pa_cons (pe_own C__law_take hr (by rfl) (pa_cons (pv 0) (pa_cons pe_int pa_nil))) pa_nil)) (by rfl))
      (pss_cons (ps_for PassesOwn.never rfl (pi_range1 rfl m_range (pa_cons pe_int pa_nil)) (pg_name (i := 5) scGone.nd rfl (.inl rfl))
        (Evl.pss_cut (ps_if (PW.pt (pw_and (pt_cmpR op_le (pv 4) (pv 1) (nomark _)) (pw_and1 (pt_cmpR op_gt (pe_own C__law_take hr (by rfl) (pa_cons (pv 0) (pa_cons (pv 2) pa_nil))) pe_int (nomark _))))) (pss_cons (ps_set (i := 6) scGone.nd rfl (.inl rfl) (pe_op op_add (pv 4) (pe_ix ix_list (pe_lst (pa_cons pe_int (pa_cons (pe_own C__law_take hr (by rfl) (pa_cons (pv 0) (pa_cons pe_int pa_nil))) pa_nil))) (pe_own C__law_take hr (by rfl) (pa_cons (pv 0) (pa_cons pe_int pa_nil))) (fun _ _ => rfl))))
          (pss_cons (ps_expr (pe_bm PySem.F.plainAttrs_list PySem.F.slot_list_append PySem.F.type_list_append mt_append (pv 3) (pa_cons (pe_tup (pa_cons (pv 4) (pa_cons (pv 6) pa_nil))) pa_nil)))
          (pss_one (ps_set (i := 4) scGone.nd rfl (.inl rfl) (pv 6)))))
          pss_nil)
        (pss_one (ps_set (i := 4) scGone.nd rfl (.inl rfl) (pe_op op_add (pe_op op_add (pv 4) pe_int) (pe_own C__law_take hr (by rfl) (pa_cons (pv 0) (pa_cons (pv 2) pa_nil))))))))
      (pss_one (ps_ret (pe_lc (own := [("_law_pair", 7)]) (g := (gName 7)) (tt := (tTest (tOp (rI0 fun i j => .bl (decide (i ≤ j))) (tOp (rIxT K) (tVar 7) (tC (.int 1))) (tVar 1)))) (te := (tVar 7)) rfl scGone.nd (pi_list (pv 3)) (blkOk_by (own := [("_law_pair", 7)]) (N := ["_law_state", "_law_most", "_law_rare", "_law_found", "_law_number", "_law_turn", "_law_last", "_law_pair"]) (sc := defScope sGone) (by decide +kernel)) (fun _ _ _ _ _ => (pg_name (i := 7) scGone.nd rfl (.inl rfl))) (fun _ _ _ _ _ => (pts_one (pt_cmpR op_le (pe_ix ix_tup (pv 7) pe_int (fun _ _ => rfl)) (pv 1) (nomark _)))) (fun _ _ _ _ _ => (pv 7)))))), ?_⟩
    refine ⟨Nat.zero_le _, fun p np => ?_⟩
    have sp := same_upd (o := .lst []) np
    have offp := hS.off np
    refine ⟨_, rfl, d, c, t, 3, rfl, hS.same sp, by omega, by decide, by decide, fun n0 H1 n00 n01 hS1 k1 => ⟨_, _, rfl, ?_⟩⟩
    have k01 := (Kp.same d c sp).trans k1
    refine ⟨24, rfl, by decide, by decide, for_range (n := 24) (fun i σ Hx => ∃ (gs : List (Int × Int)) (num t' : Int) (y5 y6 y7 : Option V), σ = [some (.ref d), some (.int most), some (.int rare), some (.ref p), some (.int num), y5, y6, y7] ∧ LsA Hx p gs ∧ Ris 0 gs ∧ (∀ q ∈ gs, q.2 + 2 ≤ num) ∧ 0 ≤ num ∧ gs.length ≤ i ∧ t ≤ t' ∧ t' ≤ t + 1 + 5 * (i : Int) ∧ StAt Hx d c t' ∧ Kp d c H Hx) ⟨[], n0, t + 1, _, _, _, rfl, LsA.nil (k1 _ _ offp.1 offp.2 upd_same), True.intro, (fun _ h => nomatch h), n00, Nat.le_refl _, by omega, by omega, hS1, k01⟩ (fun i σ Hx hi hP => ?_) (fun σ Hx hP => ?_)⟩
    · obtain ⟨gs, num, t', y5, y6, y7, rfl, hL, hr, hq, h0, hl, u0, u1, hS2, k2⟩ := hP
      have hi24 : (i : Int) < 24 := by omega
      refine ⟨fun σ' H' => ∃ (gs : List (Int × Int)) (num t' : Int) (y6 : Option V), σ' = [some (.ref d), some (.int most), some (.int rare), some (.ref p), some (.int num), some (.int (0 + (i : Int))), y6, y7] ∧ LsA H' p gs ∧ Ris 0 gs ∧ (∀ q ∈ gs, q.2 ≤ num) ∧ 0 ≤ num ∧ gs.length ≤ i + 1 ∧ t ≤ t' ∧ t' ≤ t + 4 + 5 * (i : Int) ∧ StAt H' d c t' ∧ Kp d c H H', ?_, ?_⟩
      · have skip : ∀ H' t3, LsA H' p gs → t ≤ t3 → t3 ≤ t + 4 + 5 * (i : Int) → StAt H' d c t3 → Kp d c H H' → ∃ (gs' : List (Int × Int)) (num' t' : Int) (y6' : Option V), [some (V.ref d), some (.int most), some (.int rare), some (.ref p), some (.int num), some (.int (0 + (i : Int))), y6, y7] = [some (.ref d), some (.int most), some (.int rare), some (.ref p), some (.int num'), some (.int (0 + (i : Int))), y6', y7] ∧ LsA H' p gs' ∧ Ris 0 gs' ∧ (∀ q ∈ gs', q.2 ≤ num') ∧ 0 ≤ num' ∧ gs'.length ≤ i + 1 ∧ t ≤ t' ∧ t' ≤ t + 4 + 5 * (i : Int) ∧ StAt H' d c t' ∧ Kp d c H H' := fun H' t3 h1 h2 h3 h4 h5 => ⟨gs, num, t3, y6, rfl, h1, hr, fun q hq' => by have := hq q hq'; omega, h0, by omega, h2, h3, h4, h5⟩
        refine ⟨_, rfl, _, rfl, _, _, rfl, rfl, _, rfl, ite2 (fun c1 => ?_) (fun c1 => ite2 (fun z => nomatch z) (fun _ => skip Hx t' hL u0 (by omega) hS2 k2))⟩
        refine ⟨_, rfl, _, rfl, d, c, t', rare, rfl, hS2, by omega, by omega, by omega, fun r2 H3 r20 r21 hS3 k3 => ?_⟩
        have hL3 := hL.kp hS2 k3 offp
        refine ⟨_, _, rfl, rfl, _, rfl, ite2 (fun c2 => ?_) (fun c2 => skip H3 (t' + 1) hL3 (by omega) (by omega) hS3 (k2.trans k3))⟩
        refine ⟨_, rfl, _, rfl, d, c, t' + 1, 3, rfl, hS3, by omega, by decide, by decide, fun r3 H4 r30 r31 hS4 k4 => ?_⟩
        refine ⟨(by show 2 ≤ sizeLine; decide), fun L nL => ?_⟩
        have sL := same_upd (o := .lst [.int 0, .int r3]) nL
        have offL := hS4.off nL
        refine ⟨_, rfl, d, c, t' + 1 + 1, 2, rfl, hS4.same sL, by omega, by decide, by decide, fun r4 H5 r40 r41 hS5 k5 => ?_⟩
        obtain ⟨v, v0, ev⟩ := pick2 (fun v => 0 ≤ v) (x := 0) (y := r3) r40 r41 (Int.le_refl _) r30
        refine ⟨L, _, r4, _, rfl, rfl, SqL.of (k5 _ _ offL.1 offL.2 upd_same), ev, num, v, rfl, rfl, ?_⟩
        have hL5 := ((hL3.kp hS3 k4 offp).same sL).kp (hS4.same sL) k5 offp
        have k05 := ((k2.trans k3).trans k4).trans ((Kp.same d c sL).trans k5)
        obtain ⟨us, ep, hpr⟩ := hL5
        refine ⟨_, rfl, .inl ⟨rfl, _, SqL.of ep⟩, _, rfl, _, rfl, (by show 2 ≤ sizeLine; decide), fun T nT => ?_⟩
        have sT := same_upd (o := .tup [.int num, .int (num + v)]) nT
        have lu := hpr.1
        refine ⟨p, _, _, rfl, rfl, sT _ _ ep, small1000 (by omega), ?_⟩
        refine ⟨_, rfl, gs ++ [(num, num + v)], num + v, t' + 1 + 1 + 1, _, rfl, ⟨_, upd_same, ((hpr.same sT).snoc upd_same).upd_lst (sT _ _ ep)⟩, hr.snoc h0 hq (by omega), fun q hq' => ?_, by omega, by rw [List.length_append]; show gs.length + 1 ≤ _; omega, by omega, by omega, (hS5.same sT).upd offp.1 offp.2, fun b o b1 b2 e => ?_⟩
        · rcases List.mem_append.mp hq' with z | z
          · have := hq q z; omega
          · rw [List.mem_singleton.mp z]; exact Int.le_refl _
        · rw [upd_ne (ne_of_none e np)]
          exact sT _ _ (k05 b o b1 b2 e)
      · rintro σ3 H3 ⟨gs, num, t3, y6, rfl, hL, hr, hq, h0, hl, v0, v1, hS3, k3⟩
        refine ⟨_, rfl, _, _, rfl, rfl, _, rfl, _, rfl, d, c, t3, rare, rfl, hS3, by omega, by omega, by omega, fun r2 H4 r20 r21 hS4 k4 => ⟨_, _, rfl, rfl, ?_⟩⟩
        exact ⟨gs, num + 2 + r2, t3 + 1, _, _, _, rfl, hL.kp hS3 k4 offp, hr, fun q hq' => by have := hq q hq'; omega, by omega, hl, by omega, by omega, hS4, k3.trans k4⟩
    · obtain ⟨gs, num, t', y5, y6, y7, rfl, hL, hr, hq, h0, hl, u0, u1, hS2, k2⟩ := hP
      obtain ⟨us, ep, hpr⟩ := hL
      refine ⟨_, rfl, p, rfl, ⟨_, SqL.of ep⟩, fun G nG => lc_list (xs := us) (fun j H' => Same Hx H' ∧ ∃ ws, H' G = some (.lst ws) ∧ Prs H' ws ((gs.take j).filter fun p => decide (p.2 ≤ most))) ⟨same_upd nG, [], upd_same, Prs.nil⟩ (fun j H' _ hP => SqL.of (hP.1 _ _ ep)) (fun j x H' hx hP => ?_) (fun H9 hP => ?_)⟩
      · obtain ⟨sm, ws, eG, hw⟩ := hP
        obtain ⟨g, T, eg, rfl, eT⟩ := prs_at hpr hx
        have et : (gs.take (j + 1)).filter (fun p => decide (p.2 ≤ most)) = (gs.take j).filter (fun p => decide (p.2 ≤ most)) ++ (if g.2 ≤ most then [g] else []) := by
          rw [List.take_add_one, eg, List.filter_append]
          show _ ++ List.filter (fun p => decide (p.2 ≤ most)) [g] = _
          by_cases c : g.2 ≤ most <;> simp [c]
        have lg : j < gs.length := (List.getElem?_eq_some_iff.mp eg).1
        refine ⟨rfl, _, rfl, T, _, 1, _, rfl, rfl, .inl (.inl (sm _ _ eT)), atI_nat (j := 1) rfl, _, rfl, _, _, rfl, rfl, _, rfl, ite2 (fun c1 => ?_) (fun c1 => ?_)⟩
        · have c1' : g.2 ≤ most := of_decide_eq_true c1
          have lw : ws.length ≤ 24 := by
            rw [hw.1]
            exact Nat.le_trans (List.length_filter_le ..) (by rw [List.length_take]; omega)
          refine ⟨_, rfl, _, eG, small1000 (by omega), fun b o e => ?_, _, upd_same, ?_⟩
          · rw [upd_ne (ne_of_none e nG)]
            exact sm b o e
          · rw [et, if_pos c1']
            exact (hw.snoc (sm _ _ eT)).upd_lst eG
        · refine ⟨sm, ws, eG, ?_⟩
          rw [et, if_neg (fun z => c1 (decide_eq_true z)), List.append_nil]
          exact hw
      · obtain ⟨sm, ws, eG, hw⟩ := hP
        have ll : us.length = gs.length := hpr.1
        rw [ll, List.take_length] at hw
        exact q G _ H9 t' (k2.free hS2 nG) ⟨ws, eG, hw⟩ (ris_filter hr) (fun p hp => of_decide_eq_true (List.mem_filter.mp hp).2) (Nat.le_trans (List.length_filter_le ..) hl) u0 (by omega) (hS2.same sm) (k2.trans (Kp.same d c sm))
theorem ok_Runs {f : Addr} {fd : FuncData} (F : Fun K "_law_runs" "_law_runs" sRuns f fd) (C__law_take : Cal P w K mg base 1 "_law_take" ["_law_state", "_law_many"] spTake) (m_range : mg "range" = none) (m_min : mg "min" = none) (m_len : mg "len" = none) : FnOk P w K mg base CX0 2 f fd ["_law_state", "_law_many", "_law_most", "_law_wide"] spRuns := by
  refine F.ok scRuns (fun vs H Q E h => ?_) (fun cdv A outer s H vs Q E hr h => ?_)
  · obtain ⟨d, c, t, many, most, wide, rfl, _⟩ := h
    rfl
  · obtain ⟨d, c, t, many, most, wide, rfl, hS, ht, m0, m1, mo0, mo1, w0, w1, q⟩ := h
    refine ⟨_, pss_cons (ps_set (i := 4) scRuns.nd rfl (.inl rfl) (pe_lst pa_nil))
      (pss_cons (ps_for PassesOwn.never rfl (pi_range1 rfl m_range (pa_cons (pv 1) pa_nil)) (pg_name (i := 5) scRuns.nd rfl (.inl rfl))
        (pss_cons (ps_set (i := 6) scRuns.nd rfl (.inl rfl) (pe_own C__law_take hr (by rfl) (pa_cons (pv 0) (pa_cons pe_int pa_nil))))
        (pss_cons (ps_set (i := 7) scRuns.nd rfl (.inl rfl) (pe_own C__law_take hr (by rfl) (pa_cons (pv 0) (pa_cons (pe_op op_add (pv 2) pe_int) pa_nil))))
        (pss_cons (ps_set (i := 8) scRuns.nd rfl (.inl rfl) (pe_callB (call_min2 rfl) (by rfl) m_min (by decide +kernel) (pa_cons (pv 2) (pa_cons (pe_op op_add (pv 7) (pe_own C__law_take hr (by rfl) (pa_cons (pv 0) (pa_cons (pv 3) pa_nil)))) pa_nil))))
        (Evl.pss_cut (ps_if (PW.pt (pw_and (pt_cmpR op_eq (pv 6) pe_int (nomark _)) (pw_and1 (pt_cmpR (op_neD hr.units) (pv 4) (pe_lst pa_nil) (nomark _))))) (pss_one (ps_asg (pe_ix ix_list (pv 4) (pe_own C__law_take hr (by rfl) (pa_cons (pv 0) (pa_cons (pe_callB call_len_seq (by rfl) m_len PySem.boot_len (pa_cons (pv 4) pa_nil)) pa_nil))) (fun _ _ => rfl)) (pg_tup rfl (pgs_cons (pg_name (i := 7) scRuns.nd rfl (.inl rfl)) (pgs_cons (pg_name (i := 8) scRuns.nd rfl (.inl rfl)) pgs_nil)))))
          pss_nil)
        (Evl.pss_cut (ps_if (PW.pt (pw_and (pt_cmpR op_eq (pv 6) pe_int (nomark _)) (pw_and1 (pt_cmpR (op_neD hr.units) (pv 4) (pe_lst pa_nil) (nomark _))))) (pss_cons (ps_set (i := 7) scRuns.nd rfl (.inl rfl) (pe_callB (call_min2 rfl) (by rfl) m_min (by decide +kernel) (pa_cons (pv 2) (pa_cons (pe_op op_add (pe_ix ix_tup (pe_ix ix_list (pv 4) (pe_un un_neg pe_int) (fun _ _ => rfl)) pe_int (fun _ _ => rfl)) (pe_own C__law_take hr (by rfl) (pa_cons (pv 0) (pa_cons pe_int pa_nil)))) pa_nil))))
          (pss_one (ps_set (i := 8) scRuns.nd rfl (.inl rfl) (pe_callB (call_min2 rfl) (by rfl) m_min (by decide +kernel) (pa_cons (pv 2) (pa_cons (pe_op op_add (pv 7) (pe_own C__law_take hr (by rfl) (pa_cons (pv 0) (pa_cons (pv 3) pa_nil)))) pa_nil))))))
          pss_nil)
        (pss_one (ps_expr (pe_bm PySem.F.plainAttrs_list PySem.F.slot_list_append PySem.F.type_list_append mt_append (pv 4) (pa_cons (pe_tup (pa_cons (pv 7) (pa_cons (pv 8) pa_nil))) pa_nil))))))))))
      (pss_one (ps_ret (pv 4)))), ?_⟩
    refine ⟨Nat.zero_le _, fun p np => ?_⟩
    have sp := same_upd (o := .lst []) np
    have offp := hS.off np
    refine ⟨_, rfl, many, rfl, by omega, by omega, for_range (n := many.toNat) (fun i σ Hx => ∃ (rs : List (Int × Int)) (t' : Int) (y5 y6 y7 y8 : Option V), σ = [some (.ref d), some (.int many), some (.int most), some (.int wide), some (.ref p), y5, y6, y7, y8] ∧ LsA Hx p rs ∧ RunOk most rs ∧ rs.length = i ∧ t ≤ t' ∧ t' ≤ t + 10 * (i : Int) ∧ StAt Hx d c t' ∧ Kp d c H Hx) ⟨[], t, _, _, _, _, rfl, LsA.nil upd_same, (fun _ h => nomatch h), rfl, by omega, by omega, hS.same sp, Kp.same d c sp⟩ (fun i σ Hx hi hP => ?_) (fun σ Hx hP => ?_)⟩
    · obtain ⟨rs, t', y5, y6, y7, y8, rfl, hL, hro, hl, u0, u1, hS2, k2⟩ := hP
      refine ⟨_, rfl, d, c, t', 5, rfl, hS2, by omega, by decide, by decide, fun kd H3 kd0 kd1 hS3 k3 => ?_⟩
      refine ⟨_, rfl, _, rfl, _, _, rfl, rfl, d, c, t' + 1, most + 1, rfl, hS3, by omega, by omega, by omega, fun fi H4 fi0 fi1 hS4 k4 => ?_⟩
      refine ⟨_, rfl, _, rfl, _, rfl, _, rfl, d, c, t' + 1 + 1, wide, rfl, hS4, by omega, by omega, by omega, fun wi H5 wi0 wi1 hS5 k5 => ⟨_, _, rfl, rfl, _, _, rfl, ?_⟩⟩
      have hL5 := ((hL.kp hS2 k3 offp).kp hS3 k4 offp).kp hS4 k5 offp
      have k25 := (k3.trans k4).trans k5
      have mn : ∀ a b : Int, a ≤ most → 0 ≤ b → a ≤ (if a + b < most then a + b else most) ∧ (if a + b < most then a + b else most) ≤ most := fun a b h1 h2 => by split <;> omega
      refine ⟨fun σ' H' => ∃ (f l t3 : Int), σ' = [some (.ref d), some (.int many), some (.int most), some (.int wide), some (.ref p), some (.int (0 + (i : Int))), some (.int kd), some (.int f), some (.int l)] ∧ 0 ≤ f ∧ f ≤ l ∧ l ≤ most ∧ LsA H' p rs ∧ t' ≤ t3 ∧ t3 ≤ t' + 4 ∧ StAt H' d c t3 ∧ Kp d c H H', ?_, ?_⟩
      · have skip : ∀ H', Same H5 H' → ∃ (f l t3 : Int), [some (V.ref d), some (.int many), some (.int most), some (.int wide), some (.ref p), some (.int (0 + (i : Int))), some (.int kd), some (.int fi), some (.int (if fi + wi < most then fi + wi else most))] = [some (.ref d), some (.int many), some (.int most), some (.int wide), some (.ref p), some (.int (0 + (i : Int))), some (.int kd), some (.int f), some (.int l)] ∧ 0 ≤ f ∧ f ≤ l ∧ l ≤ most ∧ LsA H' p rs ∧ t' ≤ t3 ∧ t3 ≤ t' + 4 ∧ StAt H' d c t3 ∧ Kp d c H H' := fun H' s' => ⟨fi, _, t' + 1 + 1 + 1, rfl, fi0, (mn fi wi (by omega) wi0).1, (mn fi wi (by omega) wi0).2, hL5.same s', by omega, by omega, hS5.same s', (k2.trans k25).trans (Kp.same d c s')⟩
        refine ⟨_, rfl, rfl, _, rfl, ite2 (fun c1 => ?_) (fun c1 => ite2 (fun z => nomatch z) (fun _ => skip H5 (Same.refl _)))⟩
        refine ⟨_, rfl, Nat.zero_le _, fun n nn => ?_⟩
        have sn := same_upd (o := .lst []) nn
        refine ne_nilP (hL5.same sn) upd_same ⟨_, rfl, ite2 (fun c2 => ?_) (fun c2 => skip _ sn)⟩
        have pos : 0 < rs.length := by
          cases rs with
          | nil => cases c2
          | cons => simp
        have hL6 := hL5.same sn
        have hS6 := hS5.same sn
        obtain ⟨us, ep, hpr⟩ := id hL6
        have lu := hpr.1
        refine ⟨_, rfl, _, rfl, _, rfl, p, _, rfl, .inl (SqL.of ep), d, c, t' + 1 + 1 + 1, (rs.length : Int), by rw [lu]; rfl, hS6, by omega, by omega, by omega, fun r H6 r0 r1 hS7 k7 => ?_⟩
        obtain ⟨v, ev, hv⟩ := pick_at (xs := us) (n := rs.length) lu r0 r1
        obtain ⟨j, hj⟩ := List.getElem?_of_mem hv
        obtain ⟨g, T, eg, rfl, eT⟩ := prs_at hpr hj
        have eT6 := (hpr.kp hS6 k7)
        obtain ⟨g', T', eg', z', eT'⟩ := prs_at eT6 hj
        cases z'
        rw [eg] at eg'
        cases eg'
        obtain ⟨g0, g1, g2⟩ := hro g (List.mem_of_getElem? eg)
        refine ⟨p, _, r, _, rfl, rfl, SqL.of (k7 _ _ offp.1 offp.2 ep), ev, T, _, rfl, .inl (.inl eT'), rfl, _, _, rfl, _, _, rfl, rfl, ?_⟩
        exact ⟨g.1, g.2, t' + 1 + 1 + 1 + 1, rfl, g0, g1, g2, hL6.kp hS6 k7 offp, by omega, by omega, hS7, ((k2.trans k25).trans (Kp.same d c sn)).trans k7⟩
      rintro σ6 H6 ⟨f1, l1, t6, rfl, f10, f11, f12, hL6, v0, v1, hS6, k6⟩
      refine ⟨fun σ' H' => ∃ (f l t3 : Int), σ' = [some (.ref d), some (.int many), some (.int most), some (.int wide), some (.ref p), some (.int (0 + (i : Int))), some (.int kd), some (.int f), some (.int l)] ∧ 0 ≤ f ∧ f ≤ l ∧ l ≤ most ∧ LsA H' p rs ∧ t' ≤ t3 ∧ t3 ≤ t' + 8 ∧ StAt H' d c t3 ∧ Kp d c H H', ?_, ?_⟩
      · have skip : ∀ H', Same H6 H' → ∃ (f l t3 : Int), [some (V.ref d), some (.int many), some (.int most), some (.int wide), some (.ref p), some (.int (0 + (i : Int))), some (.int kd), some (.int f1), some (.int l1)] = [some (.ref d), some (.int many), some (.int most), some (.int wide), some (.ref p), some (.int (0 + (i : Int))), some (.int kd), some (.int f), some (.int l)] ∧ 0 ≤ f ∧ f ≤ l ∧ l ≤ most ∧ LsA H' p rs ∧ t' ≤ t3 ∧ t3 ≤ t' + 8 ∧ StAt H' d c t3 ∧ Kp d c H H' := fun H' s' => ⟨f1, l1, t6, rfl, f10, f11, f12, hL6.same s', by omega, by omega, hS6.same s', k6.trans (Kp.same d c s')⟩
        refine ⟨_, rfl, rfl, _, rfl, ite2 (fun c1 => ?_) (fun c1 => ite2 (fun z => nomatch z) (fun _ => skip H6 (Same.refl _)))⟩
        refine ⟨_, rfl, Nat.zero_le _, fun n nn => ?_⟩
        have sn := same_upd (o := .lst []) nn
        refine ne_nilP (hL6.same sn) upd_same ⟨_, rfl, ite2 (fun c2 => ?_) (fun c2 => skip _ sn)⟩
        have hne : rs ≠ [] := fun z => by rw [z] at c2; cases c2
        have hL7 := hL6.same sn
        have hS7 := hS6.same sn
        obtain ⟨us, ep, hpr⟩ := id hL7
        obtain ⟨rs', g, rfl⟩ : ∃ rs' g, rs = rs' ++ [g] := ⟨_, _, (List.dropLast_concat_getLast hne).symm⟩
        obtain ⟨us', T, rfl, eT, _⟩ := hpr.last
        obtain ⟨g0, g1, g2⟩ := hro g (List.mem_append_right _ (List.mem_singleton.mpr rfl))
        have em : atI (us' ++ [V.ref T]) (-1) = some (.ref T) := atI_last _ _
        refine ⟨_, rfl, _, rfl, 1, rfl, p, _, -1, _, rfl, rfl, SqL.of ep, em, ?_⟩
        refine ⟨T, _, 1, _, rfl, rfl, .inl (.inl eT), atI_nat (j := 1) rfl, ?_⟩
        refine ⟨_, rfl, d, c, t6, 2, rfl, hS7, by omega, by decide, by decide, fun r2 H8 r20 r21 hS8 k8 => ⟨_, _, rfl, rfl, _, _, rfl, ?_⟩⟩
        refine ⟨_, rfl, _, rfl, _, rfl, _, rfl, d, c, t6 + 1, wide, rfl, hS8, by omega, by omega, by omega, fun r3 H9 r30 r31 hS9 k9 => ⟨_, _, rfl, rfl, _, _, rfl, ?_⟩⟩
        have mm : ∀ x : Int, 0 ≤ x → 0 ≤ (if x < most then x else most) ∧ (if x < most then x else most) ≤ most := fun x h => by split <;> omega
        have m2 := mm (g.2 + r2) (by omega)
        exact ⟨_, _, t6 + 1 + 1, rfl, m2.1, (mn _ r3 m2.2 r30).1, (mn _ r3 m2.2 r30).2, (hL7.kp hS7 k8 offp).kp hS8 k9 offp, by omega, by omega, hS9, ((k6.trans (Kp.same d c sn)).trans k8).trans k9⟩
      rintro σ7 H7 ⟨f2, l2, t7, rfl, f20, f21, f22, hL7, v20, v21, hS7, k7⟩
      obtain ⟨us, ep, hpr⟩ := hL7
      refine ⟨_, rfl, .inl ⟨rfl, _, SqL.of ep⟩, _, rfl, _, rfl, (by show 2 ≤ sizeLine; decide), fun T nT => ?_⟩
      have sT := same_upd (o := .tup [.int f2, .int l2]) nT
      have lu := hpr.1
      refine ⟨p, _, _, rfl, rfl, sT _ _ ep, small1000 (by omega), ?_⟩
      refine ⟨rs ++ [(f2, l2)], t7, _, _, _, _, rfl, ⟨_, upd_same, ((hpr.same sT).snoc upd_same).upd_lst (sT _ _ ep)⟩, fun r hr' => ?_, by rw [List.length_append]; show rs.length + 1 = _; omega, by omega, by omega, (hS7.same sT).upd offp.1 offp.2, fun b o b1 b2 e => ?_⟩
      · rcases List.mem_append.mp hr' with z | z
        · exact hro r z
        · rw [List.mem_singleton.mp z]; exact ⟨f20, f21, f22⟩
      · rw [upd_ne (ne_of_none e np)]
        exact sT _ _ (k7 b o b1 b2 e)
    · obtain ⟨rs, t', y5, y6, y7, y8, rfl, hL, hro, hl, u0, u1, hS2, k2⟩ := hP
      exact ⟨_, rfl, q p rs Hx t' np hL hro (by omega) u0 (by omega) hS2 k2⟩
end

/-! ### fewest by trying -/
/-- truths, one for each item -/
theorem lc_bs {K : PySem.W.Frag} {a : Addr} {xs : List V} {g : TG} {tt : TT} {te : TE} {vs : List Nat} {σ : L2.St} {H1 : Hp} {D : Addr} {Qd : Hp → Prop} (bs : List Bool) (nD : H1 D = none) (ea : H1 a = some (.lst xs)) (hl : bs.length = xs.length) (hz : xs.length ≤ 1000)
    (turn : ∀ (i : Nat) (x : V) (b : Bool) (H : Hp) (Kt : V → Hp → Prop) (Kn : Hp → Prop), xs[i]? = some x → bs[i]? = some b → Same H1 H → (∀ H4, Same H H4 → Kt (.bl b) H4) → g x (wipe σ vs) H fun σ2 H2 => wipe σ2 vs = wipe σ vs ∧ tt σ2 H2 fun b H3 => if b = true then te σ2 H3 Kt else Kn H3)
    (fin : ∀ H, Same H1 H → H D = some (.lst (bs.map V.bl)) → Qd H) : LcW (Itl K a) g tt te vs σ D Qd H1 := by
  refine lc_it walk_list (fun j H => Same H1 H ∧ H D = some (.lst ((bs.take j).map V.bl))) ⟨same_upd nD, upd_same⟩ (fun i H _ p => SqL.of (p.1 _ _ ea)) (fun i x H H' hi hP hy => ?_) (fun H hP => ?_)
  · obtain ⟨sm, eD⟩ := hP
    obtain ⟨rfl, hx⟩ := hy
    have hb : bs[i]? = some bs[i] := List.getElem?_eq_getElem (by omega)
    refine turn i x _ H' _ _ hx hb sm fun H4 s4 => ⟨_, s4 _ _ eD, Nat.lt_of_lt_of_le (show _ < 1000 by rw [List.length_map, List.length_take]; omega) (by decide), fun b o e => ?_, ?_⟩
    · rw [upd_ne (ne_of_none e nD)]
      exact s4 _ _ (sm b o e)
    · rw [upd_same, List.take_add_one, hb, List.map_append]
      rfl
  · obtain ⟨sm, eD⟩ := hP
    rw [← hl, List.take_length] at eD
    exact fin H sm eD
theorem rows_short0 : ∀ (fr : List Int) (acc : List (List Int)) (row : List Int), row ∈ fr.foldl (fun some n => some ++ some.map (· ++ [n])) acc → ∃ r ∈ acc, row.length ≤ r.length + fr.length
  | [], _, row, h => ⟨row, h, Nat.le_refl _⟩
  | n :: fr, acc, row, h => by
    obtain ⟨r, hr, hl⟩ := rows_short0 fr _ row h
    rcases List.mem_append.mp hr with z | z
    · exact ⟨r, z, by rw [List.length_cons]; omega⟩
    · obtain ⟨r', hr', rfl⟩ := List.mem_map.mp z
      refine ⟨r', hr', ?_⟩
      rw [List.length_append] at hl
      rw [List.length_cons]
      simp at hl
      omega
theorem rows_short {fr row : List Int} (h : row ∈ rowsF fr) : row.length ≤ fr.length := by
  obtain ⟨r, hr, hl⟩ := rows_short0 fr _ row h
  rw [List.mem_singleton.mp hr] at hl
  simpa using hl
/-- xs != [], of whole numbers -/
theorem ne_nilI {K : PySem.W.Frag} {H : Hp} {p l : Addr} {ns : List Int} {Q : VK} (h : H p = some (.lst (ns.map V.int))) (el : H l = some (.lst [])) (q : Q (.bl (!ns.isEmpty)) H) : rNeD K (.ref p) (.ref l) H Q :=
  ⟨_, .list [], .lst (SqL.of h) (dp_ints ns), .lst (SqL.of el) .nil, shaped_ints ns, by rfl, by rw [eqv_none]; exact q⟩
def inB2 (p : Int × Int) (n : Int) : Bool := decide (p.1 ≤ n) && decide (n ≤ p.2)
theorem inB2_iff {p : Int × Int} {n : Int} : inB2 p n = true ↔ p.1 ≤ n ∧ n ≤ p.2 := by simp [inB2]
def goneB (gs : List (Int × Int)) (n : Int) : Bool := gs.any fun p => inB2 p n
theorem goneB_iff {gs : List (Int × Int)} {n : Int} : goneB gs n = true ↔ InS gs n := by
  unfold goneB
  rw [List.any_eq_true]
  exact ⟨fun ⟨p, h1, h2⟩ => ⟨p, h1, inB2_iff.mp h2⟩, fun ⟨p, h1, h2⟩ => ⟨p, h1, inB2_iff.mpr h2⟩⟩
abbrev nine : List Int := [0, 1, 2, 3, 4, 5, 6, 7, 8]
def freeL (gs : List (Int × Int)) : List Int := nine.filter fun n => !goneB gs n
def hitB (rs : List (Int × Int)) (row : List Int) : Bool := rs.all fun r => row.any fun n => inB2 r n
theorem hitB_iff {rs : List (Int × Int)} {row : List Int} : hitB rs row = true ↔ hitsAll rs row := by
  unfold hitB hitsAll
  rw [List.all_eq_true]
  refine ⟨fun h r hr => ?_, fun h r hr => ?_⟩
  · obtain ⟨e, h1, h2⟩ := List.any_eq_true.mp (h r hr)
    exact ⟨e, h1, inB2_iff.mp h2⟩
  · obtain ⟨e, h1, h2⟩ := h r hr
    exact List.any_eq_true.mpr ⟨e, h1, inB2_iff.mpr h2⟩
def cntsF (rs gs : List (Int × Int)) : List Nat := ((rowsF (freeL gs)).filter (hitB rs)).map List.length
theorem rows_len : ∀ fr : List Int, (rowsF fr).length = 2 ^ fr.length := fun fr => by
  suffices h : ∀ (fr : List Int) (acc : List (List Int)), (fr.foldl (fun some n => some ++ some.map (· ++ [n])) acc).length = acc.length * 2 ^ fr.length by
    have := h fr [[]]
    simpa [rowsF] using this
  intro fr
  induction fr with
  | nil => intro acc; simp
  | cons n fr ih =>
    intro acc
    rw [List.foldl_cons, ih, List.length_append, List.length_map, List.length_cons, Nat.pow_succ, Nat.mul_comm (2 ^ fr.length) 2, ← Nat.mul_assoc, Nat.mul_two]
theorem free_len (gs : List (Int × Int)) : (freeL gs).length ≤ 9 := Nat.le_trans (List.length_filter_le ..) (by decide)
/-- a list of lists of numbers -/
def LL (H : Hp) (us : List V) (rows : List (List Int)) : Prop := us.length = rows.length ∧ ∀ (i : Nat) row, rows[i]? = some row → ∃ a, us[i]? = some (.ref a) ∧ H a = some (.lst (row.map V.int))
theorem LL.same {H H' : Hp} {us : List V} {rows : List (List Int)} (h : LL H us rows) (s : Same H H') : LL H' us rows := ⟨h.1, fun i r e => let ⟨a, h1, h2⟩ := h.2 i r e; ⟨a, h1, s _ _ h2⟩⟩
theorem LL.nil {H : Hp} : LL H [] [] := ⟨rfl, fun i p e => by simp at e⟩
theorem LL.at {H : Hp} {us : List V} {rows : List (List Int)} {i : Nat} {x : V} (h : LL H us rows) (e : us[i]? = some x) : ∃ row a, rows[i]? = some row ∧ x = .ref a ∧ H a = some (.lst (row.map V.int)) := by
  have hi : i < rows.length := by rw [← h.1]; exact (List.getElem?_eq_some_iff.mp e).1
  obtain ⟨a, h1, h2⟩ := h.2 i _ (List.getElem?_eq_getElem hi)
  rw [e] at h1
  exact ⟨_, a, List.getElem?_eq_getElem hi, Option.some.inj h1, h2⟩
theorem LL.app {H : Hp} {us ws : List V} {rs qs : List (List Int)} (h : LL H us rs) (h' : LL H ws qs) : LL H (us ++ ws) (rs ++ qs) := by
  refine ⟨by rw [List.length_append, List.length_append, h.1, h'.1], fun i r e => ?_⟩
  by_cases hi : i < rs.length
  · rw [List.getElem?_append_left hi] at e
    obtain ⟨a, h1, h2⟩ := h.2 i r e
    exact ⟨a, by rw [List.getElem?_append_left (by rw [h.1]; exact hi)]; exact h1, h2⟩
  · rw [List.getElem?_append_right (by omega)] at e
    obtain ⟨a, h1, h2⟩ := h'.2 _ r e
    exact ⟨a, by rw [List.getElem?_append_right (by rw [h.1]; omega), h.1]; exact h1, h2⟩
theorem LL.one {H : Hp} {a : Addr} {r : List Int} (e : H a = some (.lst (r.map V.int))) : LL H [.ref a] [r] := ⟨rfl, fun i p h => by
  cases i with
  | zero => cases h; exact ⟨a, rfl, e⟩
  | succ i => simp at h⟩
theorem LL.upd {H : Hp} {us : List V} {rows : List (List Int)} {l : Addr} {o : HO} (h : LL H us rows) (n : ∀ a ∈ us, a ≠ .ref l) : LL (upd H l o) us rows := ⟨h.1, fun i r e => by
  obtain ⟨a, h1, h2⟩ := h.2 i r e
  refine ⟨a, h1, ?_⟩
  rw [upd_ne fun z => n _ (List.mem_of_getElem? h1) (by rw [z])]
  exact h2⟩
def spFew (K : PySem.W.Frag) : Sp := fun vs H Q _ => ∃ (a b : Addr) (rs gs : List (Int × Int)), vs = [.ref a, .ref b] ∧ LsA H a rs ∧ LsA H b gs ∧ rs.length ≤ 900 ∧ gs.length ≤ 900 ∧ ∀ H', Same H H' → (cntsF rs gs = [] → Q .non H') ∧ ∀ m, m ∈ cntsF rs gs → (∀ c ∈ cntsF rs gs, m ≤ c) → Q (.int (m : Int)) H'
abbrev sFew : Stmt := topS 12
theorem scFew : FnScope ["_law_runs_here", "_law_gone_here", "_law_number", "_law_free", "_law_some", "_law_row", "_law_counts", "_law_first", "_law_last"] ["_law_runs_here", "_law_gone_here"] (defScope sFew) := ⟨rfl, rfl, rfl, by decide +kernel, rfl, by decide +kernel, by decide +kernel⟩
section
variable {K : PySem.W.Frag} {mg : Str → Option Value} {P : Program} {w : World} {base : Heap}
theorem ok_Few {f : Addr} {fd : FuncData} (F : Fun K "_law_fewest" "_law_fewest" sFew f fd) (m_range : mg "range" = none) (m_any : mg "any" = none) (m_all : mg "all" = none) (m_len : mg "len" = none) (m_min : mg "min" = none) : FnOk P w K mg base CX0 1 f fd ["_law_runs_here", "_law_gone_here"] (spFew K) := by
  refine F.ok scFew (fun vs H Q E h => ?_) (fun cdv A outer s H vs Q E hr h => ?_)
  · obtain ⟨a, b, rs, gs, rfl, _⟩ := h
    rfl
  · obtain ⟨a, b, rs, gs, rfl, hA, hB, hra, hgb, q⟩ := h
    refine ⟨_, pss_cons (ps_setLc (i := 3) (own := [("_law_number", 2)]) (g := (gName 2)) (tt := (tNot (tB (tCB (rAny K) (tCons (tLc (iList K (tVar 1)) (gTup K 2 (gCons (gName 7) (gCons (gName 8) gNil))) tYes (tChain (rI0 fun i j => .bl (decide (i ≤ j))) (rI0 fun i j => .bl (decide (i ≤ j))) (tVar 7) (tVar 2) (tVar 8)) [7, 8]) tNil))))) (te := (tVar 2)) rfl scFew.nd rfl rfl (sw_true rfl rfl rfl (by decide +kernel)) (pi_range1 rfl m_range (pa_cons pe_int pa_nil)) (blkOk_by (own := [("_law_number", 2)]) (N := ["_law_runs_here", "_law_gone_here", "_law_number", "_law_free", "_law_some", "_law_row", "_law_counts", "_law_first", "_law_last"]) (sc := defScope sFew) (by decide +kernel)) (fun _ _ _ _ _ => (pg_name (i := 2) scFew.nd rfl (.inr rfl))) (fun _ _ _ _ _ => (pts_one (pt_not (pt_val (pe_callB (cr_any rfl) (by rfl) m_any (by decide +kernel) (pa_cons (pe_lc (own := [("_law_first", 7), ("_law_last", 8)]) (g := (gTup K 2 (gCons (gName 7) (gCons (gName 8) gNil)))) (tt := tYes) (te := (tChain (rI0 fun i j => .bl (decide (i ≤ j))) (rI0 fun i j => .bl (decide (i ≤ j))) (tVar 7) (tVar 2) (tVar 8))) rfl scFew.nd (pi_list (pv 1)) (blkOk_by (own := [("_law_first", 7), ("_law_last", 8)]) (N := ["_law_runs_here", "_law_gone_here", "_law_number", "_law_free", "_law_some", "_law_row", "_law_counts", "_law_first", "_law_last"]) (by show blkC _ ({ kind := .function, names := [(".0", .local), ("_law_number", .cell), ("any", .globalImplicit), ("_law_gone_here", .cell)], isGenerator := false, isCoroutine := false } : Scope) _ _ = true; decide +kernel)) (fun _ _ _ _ _ => (pg_tup rfl (pgs_cons (pg_name (i := 7) scFew.nd rfl (.inl rfl)) (pgs_cons (pg_name (i := 8) scFew.nd rfl (.inl rfl)) pgs_nil)))) (fun _ _ _ _ _ => pts_nil) (fun _ _ _ _ _ => (pe_chain op_le op_le (pv 7) (pv 2) (pv 8)))) pa_nil)))))) (fun _ _ _ _ _ => (pv 2)))
      (pss_cons (ps_set (i := 4) scFew.nd rfl (.inl rfl) (pe_lst (pa_cons (pe_lst pa_nil) pa_nil)))
      (pss_cons (ps_for PassesOwn.never rfl (pi_list (pv 3)) (pg_name (i := 2) scFew.nd rfl (.inr rfl))
        (pss_one (ps_set (i := 4) scFew.nd rfl (.inl rfl) (pe_op op_cat (pv 4) (pe_lc (own := [("_law_row", 5)]) (g := (gName 5)) (tt := tYes) (te := (tOp rCat (tVar 5) (tLst (tCons (tVar 2) tNil)))) rfl scFew.nd (pi_list (pv 4)) (blkOk_by (own := [("_law_row", 5)]) (N := ["_law_runs_here", "_law_gone_here", "_law_number", "_law_free", "_law_some", "_law_row", "_law_counts", "_law_first", "_law_last"]) (sc := defScope sFew) (by decide +kernel)) (fun _ _ _ _ _ => (pg_name (i := 5) scFew.nd rfl (.inl rfl))) (fun _ _ _ _ _ => pts_nil) (fun _ _ _ _ _ => (pe_op op_cat (pv 5) (pe_lst (pa_cons (pv 2) pa_nil)))))))))
      (pss_cons (ps_set (i := 6) scFew.nd rfl (.inl rfl) (pe_lst pa_nil))
      (pss_cons (ps_for PassesOwn.never rfl (pi_list (pv 4)) (pg_name (i := 5) scFew.nd rfl (.inr rfl))
        (pss_one (ps_if (pt_val (pe_callB (cr_all rfl) (by rfl) m_all (by decide +kernel) (pa_cons (pe_lc (own := [("_law_first", 7), ("_law_last", 8)]) (g := (gTup K 2 (gCons (gName 7) (gCons (gName 8) gNil)))) (tt := tYes) (te := (tCB (rAny K) (tCons (tLc (iList K (tVar 5)) (gName 2) tYes (tChain (rI0 fun i j => .bl (decide (i ≤ j))) (rI0 fun i j => .bl (decide (i ≤ j))) (tVar 7) (tVar 2) (tVar 8)) [2]) tNil))) rfl scFew.nd (pi_list (pv 0)) (blkOk_by (own := [("_law_first", 7), ("_law_last", 8)]) (N := ["_law_runs_here", "_law_gone_here", "_law_number", "_law_free", "_law_some", "_law_row", "_law_counts", "_law_first", "_law_last"]) (sc := defScope sFew) (by decide +kernel)) (fun _ _ _ _ _ => (pg_tup rfl (pgs_cons (pg_name (i := 7) scFew.nd rfl (.inr rfl)) (pgs_cons (pg_name (i := 8) scFew.nd rfl (.inr rfl)) pgs_nil)))) (fun _ _ _ _ _ => pts_nil) (fun _ _ _ _ _ => (pe_callB (cr_any rfl) (by rfl) m_any (by decide +kernel) (pa_cons (pe_lc (own := [("_law_number", 2)]) (g := (gName 2)) (tt := tYes) (te := (tChain (rI0 fun i j => .bl (decide (i ≤ j))) (rI0 fun i j => .bl (decide (i ≤ j))) (tVar 7) (tVar 2) (tVar 8))) rfl scFew.nd (pi_list (pv 5)) (blkOk_by (own := [("_law_number", 2)]) (N := ["_law_runs_here", "_law_gone_here", "_law_number", "_law_free", "_law_some", "_law_row", "_law_counts", "_law_first", "_law_last"]) (by show blkC _ ({ kind := .function, names := [(".0", .local), ("_law_first", .cell), ("_law_last", .cell), ("any", .globalImplicit), ("_law_row", .cell)], isGenerator := false, isCoroutine := false } : Scope) _ _ = true; decide +kernel)) (fun _ _ _ _ _ => (pg_name (i := 2) scFew.nd rfl (.inl rfl))) (fun _ _ _ _ _ => pts_nil) (fun _ _ _ _ _ => (pe_chain op_le op_le (pv 7) (pv 2) (pv 8)))) pa_nil)))) pa_nil))) (pss_one (ps_expr (pe_bm PySem.F.plainAttrs_list PySem.F.slot_list_append PySem.F.type_list_append mt_append (pv 6) (pa_cons (pe_callB call_len_seq (by rfl) m_len PySem.boot_len (pa_cons (pv 5) pa_nil)) pa_nil))))
          pss_nil)))
      (pss_one (ps_ret (pe_ifExp (pt_cmpR (op_neD hr.units) (pv 6) (pe_lst pa_nil) (nomark _)) (pe_callB (cr_min rfl) (by rfl) m_min (by decide +kernel) (pa_cons (pv 6) pa_nil)) pe_non))))))), ?_⟩
    obtain ⟨ua, ea, pa⟩ := id hA
    obtain ⟨ub, eb, pb⟩ := id hB
    have n9 : ∀ j : Nat, j < 9 → nine[j]? = some (j : Int) := by decide
    refine ⟨9, rfl, by decide, by decide, fun D nD => lc_range (n := 9) (fun j H' => Same H H' ∧ H' D = some (.lst (((nine.take j).filter fun n => !goneB gs n).map V.int))) ⟨same_upd nD, upd_same⟩ (fun j H' hj hP => ?_) (fun H1 hP => ?_)⟩
    · obtain ⟨sm, eD⟩ := hP
      refine ⟨rfl, _, rfl, b, rfl, ⟨_, SqL.of (sm _ _ eb)⟩, fun G nG => lc_bs (bs := gs.map fun p => inB2 p (0 + (j : Int))) nG (sm _ _ eb) (by rw [List.length_map]; exact pb.1.symm) (by rw [pb.1]; omega) (fun i x bb H2 Kt Kn hx hb s2 k => ?_) (fun H3 s3 eG => ?_)⟩
      · obtain ⟨g, T, eg, rfl, eT⟩ := prs_at pb hx
        rw [List.getElem?_map, eg] at hb
        cases hb
        refine ⟨T, _, rfl, .inl (.inl (s2 _ _ (sm _ _ eT))), rfl, _, _, rfl, _, _, rfl, rfl, rfl, ?_⟩
        refine ⟨_, rfl, _, rfl, _, _, rfl, rfl, _, rfl, ite2 (fun c1 => ⟨_, rfl, _, _, rfl, rfl, ?_⟩) (fun c1 => ?_)⟩
        · have : inB2 g (0 + (j : Int)) = decide (0 + (j : Int) ≤ g.2) := by unfold inB2; rw [c1]; rfl
          show Kt (V.bl (decide (0 + (j : Int) ≤ g.2))) H2
          rw [← this]
          exact k H2 (Same.refl _)
        · have : inB2 g (0 + (j : Int)) = false := by unfold inB2; rw [Bool.eq_false_iff.mpr c1]; rfl
          rw [← this]
          exact k H2 (Same.refl _)
      · refine ⟨G, _, rfl, SqL.of eG, _, rfl, ?_⟩
        have eg : (gs.map fun p => inB2 p (0 + (j : Int))).any id = goneB gs (j : Int) := by
          rw [List.any_map, Int.zero_add]
          rfl
        have et : (nine.take (j + 1)).filter (fun n => !goneB gs n) = (nine.take j).filter (fun n => !goneB gs n) ++ (if goneB gs (j : Int) = true then [] else [(j : Int)]) := by
          rw [List.take_add_one, n9 j hj, List.filter_append]
          show _ ++ List.filter _ [(j : Int)] = _
          by_cases c : goneB gs (j : Int) = true <;> simp [c]
        have eD3 := s3 _ _ eD
        refine ite2 (fun c1 => ?_) (fun c1 => ?_)
        · have c1 : (!(gs.map fun p => inB2 p (0 + (j : Int))).any id) = true := c1
          rw [eg] at c1
          have c2 : ¬ goneB gs (j : Int) = true := by simpa using c1
          refine ⟨_, rfl, _, eD3, small1000 (by rw [List.length_map]; exact Nat.le_trans (List.length_filter_le ..) (by rw [List.length_take]; exact Nat.le_trans (Nat.min_le_right ..) (by decide))), fun b' o e => ?_, ?_⟩
          · rw [upd_ne (ne_of_none e nD)]
            exact s3 _ _ (sm b' o e)
          · rw [upd_same, et, if_neg c2, List.map_append, Int.zero_add]
            rfl
        · have c1 : ¬ (!(gs.map fun p => inB2 p (0 + (j : Int))).any id) = true := c1
          rw [eg] at c1
          have c2 : goneB gs (j : Int) = true := by simpa using c1
          refine ⟨sm.trans s3, ?_⟩
          rw [et, if_pos c2, List.append_nil]
          exact eD3
    · obtain ⟨s1, eD⟩ := hP
      have eD : H1 D = some (.lst ((freeL gs).map V.int)) := eD
      refine ⟨Nat.zero_le _, fun L0 nL0 => ⟨(by show 1 ≤ sizeLine; decide), fun L1 nL1 => ?_⟩⟩
      have sL0 := same_upd (o := .lst []) nL0
      have sL1 := same_upd (o := .lst [.ref L0]) nL1
      have s01 := (s1.trans sL0).trans sL1
      refine ⟨_, rfl, D, rfl, ⟨_, SqL.of ((sL0.trans sL1) _ _ eD)⟩, for_list (xs := (freeL gs).map V.int) (fun i σ Hx => ∃ (y2 y5 y6 y7 y8 : Option V) (L : Addr) (us : List V), σ = [some (.ref a), some (.ref b), y2, some (.ref D), some (.ref L), y5, y6, y7, y8] ∧ Same H Hx ∧ Hx D = some (.lst ((freeL gs).map V.int)) ∧ Hx L = some (.lst us) ∧ LL Hx us (rowsF ((freeL gs).take i))) ⟨_, _, _, _, _, L1, _, rfl, s01, (sL0.trans sL1) _ _ eD, upd_same, LL.one (sL1 _ _ upd_same)⟩ (fun i σ Hx _ hP => ?_) (fun i x σ Hx hx hP => ?_) (fun σ Hx hP => ?_)⟩
      · obtain ⟨y2, y5, y6, y7, y8, L, us, rfl, sm, eD', eL, hLL⟩ := hP
        exact SqL.of eD'
      · obtain ⟨y2, y5, y6, y7, y8, L, us, rfl, sm, eD', eL, hLL⟩ := hP
        have hi9 : i < (freeL gs).length := by
          have := (List.getElem?_eq_some_iff.mp hx).1
          rwa [List.length_map] at this
        have hx' : (freeL gs)[i]?.map V.int = some x := by rw [← List.getElem?_map]; exact hx
        rw [List.getElem?_eq_getElem hi9] at hx'
        obtain rfl : V.int (freeL gs)[i] = x := Option.some.inj hx'
        have f9 := free_len gs
        have lr : (rowsF ((freeL gs).take i)).length ≤ 256 := by
          rw [rows_len, List.length_take]
          exact Nat.le_trans (Nat.pow_le_pow_right (by decide) (show min i (freeL gs).length ≤ 8 by omega)) (by decide)
        have lu := hLL.1
        refine ⟨_, rfl, _, rfl, L, rfl, ⟨_, SqL.of eL⟩, fun G nG => lc_list (xs := us) (fun j H' => Same Hx H' ∧ ∃ ws, H' G = some (.lst ws) ∧ LL H' ws (((rowsF ((freeL gs).take i)).take j).map (· ++ [(freeL gs)[i]])) ∧ ∀ v ∈ ws, v ≠ .ref G) ⟨same_upd nG, [], upd_same, LL.nil, fun _ h => nomatch h⟩ (fun j H' _ hP => SqL.of (hP.1 _ _ eL)) (fun j x H' hx hP => ?_) (fun H3 hP => ?_)⟩
        · obtain ⟨sm2, ws, eG, hws, hng⟩ := hP
          obtain ⟨row, r, er, rfl, eR⟩ := hLL.at hx
          have lrow : row.length ≤ 9 := by
            have := rows_short (List.mem_of_getElem? er)
            rw [List.length_take] at this
            omega
          refine ⟨rfl, _, rfl, _, rfl, (by show 1 ≤ sizeLine; decide), fun l1 nl1 => ?_⟩
          have sl1 := same_upd (o := .lst [.int (freeL gs)[i]]) nl1
          refine ⟨r, l1, _, _, rfl, rfl, sl1 _ _ (sm2 _ _ eR), upd_same, Nat.le_trans (show _ ≤ 1000 by rw [List.length_map]; show _ + 1 ≤ _; omega) (by decide), fun p np => ?_⟩
          have sp := same_upd (o := .lst (row.map V.int ++ [.int (freeL gs)[i]])) np
          have eG2 := sp _ _ (sl1 _ _ eG)
          have npG : p ≠ G := fun z => by rw [z, sl1 _ _ eG] at np; cases np
          have lws : ws.length ≤ 256 := by
            rw [hws.1, List.length_map, List.length_take]
            omega
          refine ⟨_, eG2, small1000 (by omega), fun b' o e => ?_, ws ++ [.ref p], upd_same, ?_, fun v hv => ?_⟩
          · rw [upd_ne (ne_of_none e nG)]
            exact sp _ _ (sl1 _ _ (sm2 b' o e))
          · have hw2 := (hws.same (sl1.trans sp)).app (LL.one (r := row ++ [(freeL gs)[i]]) (H := upd (upd H' l1 (.lst [.int (freeL gs)[i]])) p (.lst (row.map V.int ++ [.int (freeL gs)[i]]))) (a := p) (by rw [upd_same, List.map_append]; rfl))
            have et : ((rowsF ((freeL gs).take i)).take (j + 1)).map (· ++ [(freeL gs)[i]]) = ((rowsF ((freeL gs).take i)).take j).map (· ++ [(freeL gs)[i]]) ++ [row ++ [(freeL gs)[i]]] := by
              rw [List.take_add_one, er, List.map_append]
              rfl
            rw [et]
            refine hw2.upd fun v hv => ?_
            rcases List.mem_append.mp hv with z | z
            · exact hng v z
            · rw [List.mem_singleton.mp z]
              exact fun w => npG (V.ref.inj w)
          · rcases List.mem_append.mp hv with z | z
            · exact hng v z
            · rw [List.mem_singleton.mp z]
              exact fun w => npG (V.ref.inj w)
        · obtain ⟨sm2, ws, eG, hws, hng⟩ := hP
          rw [lu, List.take_length] at hws
          have lw : ws.length ≤ 256 := by rw [hws.1, List.length_map]; omega
          refine ⟨L, G, _, _, rfl, rfl, sm2 _ _ eL, eG, Nat.le_trans (show _ ≤ 1000 by omega) (by decide), fun p np => ?_⟩
          have sp := same_upd (o := .lst (us ++ ws)) np
          refine ⟨_, _, _, _, _, p, us ++ ws, rfl, (sm.trans sm2).trans sp, sp _ _ (sm2 _ _ eD'), upd_same, ?_⟩
          rw [List.take_add_one, List.getElem?_eq_getElem hi9]
          show LL _ _ (rowsF (List.take i (freeL gs) ++ [(freeL gs)[i]]))
          rw [rowsF_snoc]
          exact ((hLL.same sm2).app hws).same sp
      · obtain ⟨y2, y5, y6, y7, y8, L, us, rfl, sm, eD', eL, hLL⟩ := hP
        rw [List.length_map, List.take_length] at hLL
        have f9 := free_len gs
        have lr : (rowsF (freeL gs)).length ≤ 512 := by
          rw [rows_len]
          exact Nat.le_trans (Nat.pow_le_pow_right (by decide) f9) (by decide)
        refine ⟨Nat.zero_le _, fun C nC => ?_⟩
        have sC := same_upd (o := .lst []) nC
        refine ⟨_, rfl, L, rfl, ⟨_, SqL.of (sC _ _ eL)⟩, for_list (xs := us) (fun i σ Hy => ∃ (y2 y5 y7 y8 : Option V), σ = [some (.ref a), some (.ref b), y2, some (.ref D), some (.ref L), y5, some (.ref C), y7, y8] ∧ Same Hx Hy ∧ Hy C = some (.lst (((((rowsF (freeL gs)).take i).filter (hitB rs)).map fun r => (r.length : Int)).map V.int))) ⟨_, _, _, _, rfl, sC, upd_same⟩ (fun i σ Hy _ hP => ?_) (fun i x σ Hy hx hP => ?_) (fun σ Hy hP => ?_)⟩
        · obtain ⟨y2, y5, y7, y8, rfl, sy, eC⟩ := hP
          exact SqL.of (sy _ _ eL)
        · obtain ⟨y2, y5, y7, y8, rfl, sy, eC⟩ := hP
          obtain ⟨row, r, er, rfl, eR⟩ := hLL.at hx
          have eay : Hy a = some (.lst ua) := sy _ _ (sm _ _ ea)
          have eRy := sy _ _ eR
          have lrow : row.length ≤ 9 := Nat.le_trans (rows_short (List.mem_of_getElem? er)) f9
          refine ⟨_, rfl, a, rfl, ⟨_, SqL.of eay⟩, fun G nG => lc_bs (bs := rs.map fun r => row.any (inB2 r)) nG eay (by rw [List.length_map]; exact pa.1.symm) (by rw [pa.1]; omega) (fun j x bb H2 Kt Kn hx2 hb s2 k => ?_) (fun H3 s3 eG => ?_)⟩
          · obtain ⟨g, T, eg, rfl, eT⟩ := prs_at pa hx2
            rw [List.getElem?_map, eg] at hb
            cases hb
            refine ⟨T, _, rfl, .inl (.inl (s2 _ _ (sy _ _ (sm _ _ eT)))), rfl, _, _, rfl, _, _, rfl, rfl, rfl, ?_⟩
            have eR2 := s2 _ _ eRy
            refine ⟨_, rfl, r, rfl, ⟨_, SqL.of eR2⟩, fun G2 nG2 => lc_bs (bs := row.map fun n => inB2 g n) nG2 eR2 (by rw [List.length_map, List.length_map]) (by rw [List.length_map]; omega) (fun j3 x3 b3 H4 Kt4 Kn4 hx4 hb4 s4 k4 => ?_) (fun H5 s5 eG2 => ?_)⟩
            · have hx5 : row[j3]?.map V.int = some x3 := by rw [← List.getElem?_map]; exact hx4
              rw [List.getElem?_map] at hb4
              cases hn : row[j3]? with
              | none => rw [hn] at hx5; cases hx5
              | some n =>
                rw [hn] at hx5 hb4
                cases hx5
                cases hb4
                refine ⟨rfl, _, rfl, _, rfl, _, _, rfl, rfl, _, rfl, ite2 (fun c1 => ⟨_, rfl, _, _, rfl, rfl, ?_⟩) (fun c1 => ?_)⟩
                · have : inB2 g n = decide (n ≤ g.2) := by unfold inB2; rw [c1]; rfl
                  show Kt4 (V.bl (decide (n ≤ g.2))) H4
                  rw [← this]
                  exact k4 H4 (Same.refl _)
                · have : inB2 g n = false := by unfold inB2; rw [Bool.eq_false_iff.mpr c1]; rfl
                  rw [← this]
                  exact k4 H4 (Same.refl _)
            · refine ⟨G2, _, rfl, SqL.of eG2, ?_⟩
              rw [List.any_map]
              exact k H5 s5
          · refine ⟨G, _, rfl, SqL.of eG, _, rfl, ?_⟩
            have eh : (rs.map fun r => row.any (inB2 r)).all id = hitB rs row := by
              rw [List.all_map]
              rfl
            have et : ((((rowsF (freeL gs)).take (i + 1)).filter (hitB rs)).map fun r => (r.length : Int)) = ((((rowsF (freeL gs)).take i).filter (hitB rs)).map fun r => (r.length : Int)) ++ (if hitB rs row = true then [(row.length : Int)] else []) := by
              rw [List.take_add_one, er, List.filter_append, List.map_append]
              show _ ++ (List.filter (hitB rs) [row]).map _ = _
              by_cases c : hitB rs row = true <;> simp [c]
            have eC3 := s3 _ _ eC
            refine ite2 (fun c1 => ?_) (fun c1 => ?_)
            · have c1 : (rs.map fun r => row.any (inB2 r)).all id = true := c1
              rw [eh] at c1
              have eR3 := s3 _ _ eRy
              refine ⟨_, rfl, .inl ⟨rfl, _, SqL.of eC3⟩, _, rfl, r, _, rfl, .inl (SqL.of eR3), C, _, _, rfl, rfl, eC3, small1000 ?_, ?_⟩
              · rw [List.length_map, List.length_map]
                exact Nat.le_trans (List.length_filter_le ..) (by rw [List.length_take]; omega)
              · refine ⟨_, _, _, _, rfl, fun b' o e => ?_, ?_⟩
                · rw [upd_ne (ne_of_none e nC)]
                  exact s3 _ _ (sy b' o e)
                · rw [upd_same, et, if_pos c1, List.map_append, List.length_map]
                  rfl
            · have c1 : ¬ (rs.map fun r => row.any (inB2 r)).all id = true := c1
              rw [eh] at c1
              refine ⟨_, _, _, _, rfl, sy.trans s3, ?_⟩
              rw [et, if_neg c1, List.append_nil]
              exact eC3
        · obtain ⟨y2, y5, y7, y8, rfl, sy, eC⟩ := hP
          rw [hLL.1, List.take_length] at eC
          have ec : (((rowsF (freeL gs)).filter (hitB rs)).map fun r => (r.length : Int)) = (cntsF rs gs).map fun n : Nat => (n : Int) := by
            unfold cntsF
            rw [List.map_map]
            rfl
          rw [ec] at eC
          refine ⟨_, rfl, Nat.zero_le _, fun n nn => ?_⟩
          have sn := same_upd (o := .lst []) nn
          have sH := (sm.trans sy).trans sn
          obtain ⟨q1, q2⟩ := q _ sH
          refine ne_nilI (sn _ _ eC) upd_same ⟨_, rfl, ite2 (fun c1 => ?_) (fun c1 => ?_)⟩
          · refine ⟨_, rfl, C, _, rfl, SqL.of (sn _ _ eC), ?_, fun m hm hmin => ?_⟩
            · cases h : cntsF rs gs with
              | nil => rw [h] at c1; cases c1
              | cons => simp
            · obtain ⟨m', hm', rfl⟩ := List.mem_map.mp hm
              refine q2 m' hm' fun c hc => ?_
              have := hmin (c : Int) (List.mem_map_of_mem hc)
              omega
          · refine q1 ?_
            cases h : cntsF rs gs with
            | nil => rfl
            | cons => rw [h] at c1; exact absurd rfl c1
end

/-! ### the first run that is gone whole -/
def allGB (gs : List (Int × Int)) (r : Int × Int) : Bool := ((List.range (r.2 + 1 - r.1).toNat).map fun k : Nat => goneB gs (r.1 + (k : Int))).all id
theorem allGB_iff {gs : List (Int × Int)} {r : Int × Int} : allGB gs r = true ↔ ∀ n, r.1 ≤ n → n ≤ r.2 → InS gs n := by
  unfold allGB
  rw [List.all_map, List.all_eq_true]
  constructor
  · intro h n h1 h2
    have := h (n - r.1).toNat (List.mem_range.mpr (by omega))
    have e : r.1 + ((n - r.1).toNat : Int) = n := by omega
    have this : goneB gs (r.1 + ((n - r.1).toNat : Int)) = true := this
    rw [e] at this
    exact goneB_iff.mp this
  · intro h k hk
    have := List.mem_range.mp hk
    exact goneB_iff.mpr (h _ (by omega) (by omega))
def spBlind (K : PySem.W.Frag) : Sp := fun vs H Q _ => ∃ (a b : Addr) (rs gs : List (Int × Int)), vs = [.ref a, .ref b] ∧ LsA H a rs ∧ LsA H b gs ∧ rs.length ≤ 900 ∧ gs.length ≤ 900 ∧ RunOk 900 rs ∧ ∀ H', Same H H' → (∀ (i : Nat) r, rs[i]? = some r → allGB gs r = true → (∀ (j : Nat) r', j < i → rs[j]? = some r' → allGB gs r' = false) → Q (.int (i : Int)) H') ∧ ((∀ r ∈ rs, allGB gs r = false) → Q .non H')
abbrev sBlind : Stmt := topS 13
theorem scBlind : FnScope ["_law_runs_here", "_law_gone_here", "_law_place", "_law_first", "_law_last", "_law_number", "_law_begin_here", "_law_end"] ["_law_runs_here", "_law_gone_here"] (defScope sBlind) := ⟨rfl, rfl, rfl, by decide +kernel, rfl, by decide +kernel, by decide +kernel⟩
section
variable {K : PySem.W.Frag} {mg : Str → Option Value} {P : Program} {w : World} {base : Heap}
theorem ok_Blind {f : Addr} {fd : FuncData} (F : Fun K "_law_first_blind" "_law_first_blind" sBlind f fd) (m_enumerate : mg "enumerate" = none) (m_range : mg "range" = none) (m_any : mg "any" = none) (m_all : mg "all" = none) : FnOk P w K mg base CX0 1 f fd ["_law_runs_here", "_law_gone_here"] (spBlind K) := by
  refine F.ok scBlind (fun vs H Q E h => ?_) (fun cdv A outer s H vs Q E hr h => ?_)
  · obtain ⟨a, b, rs, gs, rfl, _⟩ := h
    rfl
  · obtain ⟨a, b, rs, gs, rfl, hA, hB, hra, hgb, hro, q⟩ := h
    refine ⟨_, pss_cons (ps_for PassesOwn.never rfl (pi_enum (by rfl) m_enumerate (pa_cons (pv 0) pa_nil)) (pg_tup rfl (pgs_cons (pg_name (i := 2) scBlind.nd rfl (.inl rfl)) (pgs_cons (pg_tup rfl (pgs_cons (pg_name (i := 3) scBlind.nd rfl (.inl rfl)) (pgs_cons (pg_name (i := 4) scBlind.nd rfl (.inl rfl)) pgs_nil))) pgs_nil)))
        (pss_one (ps_if (pt_val (pe_callB (cr_all rfl) (by rfl) m_all (by decide +kernel) (pa_cons (pe_lc (own := [("_law_number", 5)]) (g := (gName 5)) (tt := tYes) (te := (tCB (rAny K) (tCons (tLc (iList K (tVar 1)) (gTup K 2 (gCons (gName 6) (gCons (gName 7) gNil))) tYes (tChain (rI0 fun i j => .bl (decide (i ≤ j))) (rI0 fun i j => .bl (decide (i ≤ j))) (tVar 6) (tVar 5) (tVar 7)) [6, 7]) tNil))) rfl scBlind.nd (pi_range2 rfl m_range (pa_cons (pv 3) (pa_cons (pe_op op_add (pv 4) pe_int) pa_nil))) (blkOk_by (own := [("_law_number", 5)]) (N := ["_law_runs_here", "_law_gone_here", "_law_place", "_law_first", "_law_last", "_law_number", "_law_begin_here", "_law_end"]) (sc := defScope sBlind) (by decide +kernel)) (fun _ _ _ _ _ => (pg_name (i := 5) scBlind.nd rfl (.inr rfl))) (fun _ _ _ _ _ => pts_nil) (fun _ _ _ _ _ => (pe_callB (cr_any rfl) (by rfl) m_any (by decide +kernel) (pa_cons (pe_lc (own := [("_law_begin_here", 6), ("_law_end", 7)]) (g := (gTup K 2 (gCons (gName 6) (gCons (gName 7) gNil)))) (tt := tYes) (te := (tChain (rI0 fun i j => .bl (decide (i ≤ j))) (rI0 fun i j => .bl (decide (i ≤ j))) (tVar 6) (tVar 5) (tVar 7))) rfl scBlind.nd (pi_list (pv 1)) (blkOk_by (own := [("_law_begin_here", 6), ("_law_end", 7)]) (N := ["_law_runs_here", "_law_gone_here", "_law_place", "_law_first", "_law_last", "_law_number", "_law_begin_here", "_law_end"]) (by show blkC _ ({ kind := .function, names := [(".0", .local), ("_law_number", .cell), ("any", .globalImplicit), ("_law_gone_here", .cell)], isGenerator := false, isCoroutine := false } : Scope) _ _ = true; decide +kernel)) (fun _ _ _ _ _ => (pg_tup rfl (pgs_cons (pg_name (i := 6) scBlind.nd rfl (.inl rfl)) (pgs_cons (pg_name (i := 7) scBlind.nd rfl (.inl rfl)) pgs_nil)))) (fun _ _ _ _ _ => pts_nil) (fun _ _ _ _ _ => (pe_chain op_le op_le (pv 6) (pv 5) (pv 7)))) pa_nil)))) pa_nil))) (pss_one (ps_ret (pv 2)))
          pss_nil)))
      (pss_one (ps_ret pe_non)), ?_⟩
    obtain ⟨ua, ea, pa⟩ := id hA
    obtain ⟨ub, eb, pb⟩ := id hB
    refine ⟨_, rfl, a, _, rfl, SqL.of ea, for_it (walk_enum (xs := ua)) (fun i σ Hx => ∃ (y2 y3 y4 y5 y6 y7 : Option V), σ = [some (.ref a), some (.ref b), y2, y3, y4, y5, y6, y7] ∧ Same H Hx ∧ ∀ j r', j < i → rs[j]? = some r' → allGB gs r' = false) ⟨_, _, _, _, _, _, rfl, Same.refl _, fun _ _ h => absurd h (Nat.not_lt_zero _)⟩ (fun i σ Hx _ hP => ?_) (fun i x σ Hx H' hi hP hy => ?_) (fun σ Hx hP => ?_)⟩
    · obtain ⟨y2, y3, y4, y5, y6, y7, rfl, sm, _⟩ := hP
      exact SqL.of (sm _ _ ea)
    · obtain ⟨y2, y3, y4, y5, y6, y7, rfl, sm, hno⟩ := hP
      obtain ⟨T, x1, x2, rfl, nT, rfl, f1, f2⟩ := hy
      have sT := same_upd (o := .tup [x1, x2]) nT
      cases f1
      obtain ⟨r, T2, er, rfl, eT2⟩ := prs_at pa f2
      obtain ⟨r0, r1, r2⟩ := hro r (List.mem_of_getElem? er)
      have s1 := sm.trans sT
      refine ⟨T, _, rfl, .inl (.inl upd_same), rfl, _, _, rfl, _, _, rfl, T2, _, rfl, .inl (.inl (s1 _ _ eT2)), rfl, _, _, rfl, _, _, rfl, rfl, rfl, ?_⟩
      have ebT := s1 _ _ eb
      refine ⟨_, rfl, _, rfl, _, _, rfl, rfl, r.1, r.2 + 1, rfl, ⟨by omega, by omega, by omega, by omega⟩, fun G nG => lc_range (lo := r.1) (n := (r.2 + 1 - r.1).toNat) (fun j H2 => Same (upd Hx T (.tup [.int (i : Nat), .ref T2])) H2 ∧ H2 G = some (.lst (((List.range j).map fun k : Nat => goneB gs (r.1 + (k : Int))).map V.bl))) ⟨same_upd nG, upd_same⟩ (fun j H2 hj hP => ?_) (fun H3 hP => ?_)⟩
      · obtain ⟨s2, eG⟩ := hP
        refine ⟨rfl, _, rfl, b, rfl, ⟨_, SqL.of (s2 _ _ ebT)⟩, fun G2 nG2 => lc_bs (bs := gs.map fun p => inB2 p (r.1 + (j : Int))) nG2 (s2 _ _ ebT) (by rw [List.length_map]; exact pb.1.symm) (by rw [pb.1]; omega) (fun j3 x bb H4 Kt Kn hx hb s4 k => ?_) (fun H5 s5 eG2 => ?_)⟩
        · obtain ⟨g, T4, eg, rfl, eT4⟩ := prs_at pb hx
          rw [List.getElem?_map, eg] at hb
          cases hb
          refine ⟨T4, _, rfl, .inl (.inl (s4 _ _ (s2 _ _ (s1 _ _ eT4)))), rfl, _, _, rfl, _, _, rfl, rfl, rfl, ?_⟩
          refine ⟨_, rfl, _, rfl, _, _, rfl, rfl, _, rfl, ite2 (fun c1 => ⟨_, rfl, _, _, rfl, rfl, ?_⟩) (fun c1 => ?_)⟩
          · have : inB2 g (r.1 + (j : Int)) = decide (r.1 + (j : Int) ≤ g.2) := by unfold inB2; rw [c1]; rfl
            show Kt (V.bl (decide (r.1 + (j : Int) ≤ g.2))) H4
            rw [← this]
            exact k H4 (Same.refl _)
          · have : inB2 g (r.1 + (j : Int)) = false := by unfold inB2; rw [Bool.eq_false_iff.mpr c1]; rfl
            rw [← this]
            exact k H4 (Same.refl _)
        · refine ⟨G2, _, rfl, SqL.of eG2, ?_⟩
          have eg : (gs.map fun p => inB2 p (r.1 + (j : Int))).any id = goneB gs (r.1 + (j : Int)) := by
            rw [List.any_map]
            rfl
          rw [eg]
          refine ⟨_, s5 _ _ eG, small1000 (by rw [List.length_map, List.length_map, List.length_range]; omega), fun b' o e => ?_, ?_⟩
          · rw [upd_ne (ne_of_none e nG)]
            exact s5 _ _ (s2 b' o e)
          · rw [upd_same, List.range_succ, List.map_append, List.map_append]
            rfl
      · obtain ⟨s3, eG⟩ := hP
        refine ⟨G, _, rfl, SqL.of eG, _, rfl, ite2 (fun c1 => ?_) (fun c1 => ?_)⟩
        · exact ⟨_, rfl, (q _ (s1.trans s3)).1 i r er c1 hno⟩
        · refine ⟨_, _, _, _, _, _, rfl, s1.trans s3, fun j r' hj hr' => ?_⟩
          rcases Nat.lt_or_ge j i with z | z
          · exact hno j r' z hr'
          · obtain rfl : j = i := by omega
            rw [er] at hr'
            cases hr'
            exact Bool.eq_false_iff.mpr c1
    · obtain ⟨y2, y3, y4, y5, y6, y7, rfl, sm, hno⟩ := hP
      refine (q _ sm).2 fun r hr => ?_
      obtain ⟨j, hj⟩ := List.getElem?_of_mem hr
      refine hno j r ?_ hj
      rw [pa.1]
      exact (List.getElem?_eq_some_iff.mp hj).1
end

open LamX
/-! ### the fewest samples -/
theorem atI_m1 {xs : List V} {v : V} (h : xs[xs.length - 1]? = some v) : atI xs (-1) = some v := by
  have lt := (List.getElem?_eq_some_iff.mp h).1
  unfold atI ixN
  rw [if_neg (by omega), if_pos (by omega)]
  show xs[(-1 + (xs.length : Int)).toNat]? = some v
  rw [show (-1 + (xs.length : Int)).toNat = xs.length - 1 by omega]
  exact h
theorem u65 {k : Nat} {A : Around} (r : Room k A) : A.units + 65 < cLine := by have := r.un; omega
theorem TbL.refl {P : Addr} {q : Str} {H : Hp} (t : TabS H P q) : TbL P q H H := ⟨t, fun _ _ e _ => e⟩
theorem TbL.trans {P : Addr} {q : Str} {H H1 H2 : Hp} (a : TbL P q H H1) (b : TbL P q H1 H2) : TbL P q H H2 := ⟨b.1, fun x o e n => b.2 x o (a.2 x o e n) n⟩
theorem TbL.of {P : Addr} {q : Str} {H H2 : Hp} (t : TabS H P q) (s : Same H H2) : TbL P q H H2 := ⟨t.ext s, fun b o e _ => s b o e⟩
theorem TbL.lst {P : Addr} {q : Str} {H H2 : Hp} {a : Addr} {xs : List V} (t : TbL P q H H2) (e : H a = some (.lst xs)) : H2 a = some (.lst xs) := t.2 _ _ e fun _ z => nomatch z
theorem TbL.tup {P : Addr} {q : Str} {H H2 : Hp} {a : Addr} {xs : List V} (t : TbL P q H H2) (e : H a = some (.tup xs)) : H2 a = some (.tup xs) := t.2 _ _ e fun _ z => nomatch z
theorem LsA.tbl {P : Addr} {q : Str} {H H2 : Hp} {a : Addr} {ps : List (Int × Int)} (h : LsA H a ps) (t : TbL P q H H2) : LsA H2 a ps := by
  obtain ⟨us, e, p⟩ := h
  exact ⟨us, t.lst e, p.1, fun i r er => let ⟨x, h1, h2⟩ := p.2 i r er; ⟨x, h1, t.tup h2⟩⟩
/-- lists of sets -/
def LR (H : Hp) (us : List V) (ls : List (List (Int × Int))) : Prop := us.length = ls.length ∧ ∀ (i : Nat) l, ls[i]? = some l → ∃ a, us[i]? = some (.ref a) ∧ LsA H a l
theorem LR.same {H H' : Hp} {us : List V} {ls : List (List (Int × Int))} (h : LR H us ls) (s : Same H H') : LR H' us ls := ⟨h.1, fun i r e => let ⟨a, h1, h2⟩ := h.2 i r e; ⟨a, h1, h2.same s⟩⟩
theorem LR.tbl {P : Addr} {q : Str} {H H2 : Hp} {us : List V} {ls : List (List (Int × Int))} (h : LR H us ls) (t : TbL P q H H2) : LR H2 us ls := ⟨h.1, fun i r e => let ⟨a, h1, h2⟩ := h.2 i r e; ⟨a, h1, h2.tbl t⟩⟩
theorem LR.nil {H : Hp} : LR H [] [] := ⟨rfl, fun i p e => by simp at e⟩
theorem LR.snoc {H : Hp} {us : List V} {ls : List (List (Int × Int))} {a : Addr} {l : List (Int × Int)} (h : LR H us ls) (e : LsA H a l) : LR H (us ++ [.ref a]) (ls ++ [l]) := by
  refine ⟨by rw [List.length_append, List.length_append, h.1]; rfl, fun i r er => ?_⟩
  by_cases hi : i < ls.length
  · rw [List.getElem?_append_left hi] at er
    obtain ⟨b, h1, h2⟩ := h.2 i r er
    exact ⟨b, by rw [List.getElem?_append_left (by rw [h.1]; exact hi)]; exact h1, h2⟩
  · rw [List.getElem?_append_right (by omega)] at er
    have h0 : i - ls.length < 1 := (List.getElem?_eq_some_iff.mp er).1
    obtain rfl : i = ls.length := by omega
    rw [Nat.sub_self] at er
    cases er
    exact ⟨a, by rw [← h.1, List.getElem?_append_right (Nat.le_refl _), Nat.sub_self]; rfl, e⟩
def setD' (ps : List (Int × Int)) : PyData := .list (ps.map pairD)
theorem dp_sets {K : PySem.W.Frag} {H : Hp} : ∀ {us : List V} {ls : List (List (Int × Int))}, LR H us ls → DpAll K H us (ls.map setD')
  | [], [], _ => .nil
  | [], _ :: _, h => nomatch h.1
  | _ :: _, [], h => nomatch h.1
  | u :: us, l :: ls, h => by
    obtain ⟨a, e1, e2⟩ := h.2 0 l rfl
    have eu : u = .ref a := Option.some.inj e1
    subst eu
    exact .cons e2.dp (dp_sets ⟨Nat.succ.inj h.1, fun i r e => h.2 (i + 1) r e⟩)
theorem lay_sets : ∀ ls : List (List (Int × Int)), PyData.canLayAll0 (ls.map setD') = true
  | [] => by simp only [List.map_nil, PyData.canLayAll0]
  | l :: r => by
    rw [List.map_cons, PyData.canLayAll0, lay_sets r, setD', PyData.canLay0, lay_prs]
    rfl
theorem depth_sets : ∀ ls : List (List (Int × Int)), PyData.depthAll (ls.map setD') ≤ 2
  | [] => by simp only [List.map_nil, PyData.depthAll]; omega
  | l :: r => by
    rw [List.map_cons, PyData.depthAll, setD', PyData.depth]
    have := depth_sets r
    have := depth_prs l
    omega
theorem shaped_sets (ls : List (List (Int × Int))) : SeqAt.shaped (PyData.list (ls.map setD')) = true := by
  unfold SeqAt.shaped
  rw [PyData.canLay0, lay_sets, PyData.depth, Bool.true_and]
  exact decide_eq_true (by have := depth_sets ls; omega)
theorem eqv_set (l : List (Int × Int)) : PyData.eqv (setD' l) (.list []) = l.isEmpty := eqv_none _ _
/-- the least and the greatest of the i-th set -/
def Lf (ls : List (List (Int × Int))) (i : Nat) : Int × Int := match ls[i]? with
  | some l => (((l[0]?).getD (0, 0)).1, ((l[l.length - 1]?).getD (0, 0)).2)
  | none => (0, 0)
def kI (ls : List (List (Int × Int))) : V → Int
  | .int n => (Lf ls n.toNat).2
  | _ => 0
/-- what samples are rightly told -/
structure SampOk (rs gs : List (Int × Int)) (ns : List Int) : Prop where
  free : ∀ e ∈ ns, ¬ InS gs e ∧ ∃ r ∈ rs, r.1 ≤ e ∧ e ≤ r.2
  inc : ns.Pairwise (· < ·)
  hit : hitsAll rs ns
  low : ∀ row, (∀ e ∈ row, ¬ InS gs e) → hitsAll rs row → ns.length ≤ row.length
theorem TabS.upd {H : Hp} {P : Addr} {q : Str} {l : Addr} {xs : List V} {o : HO} (t : TabS H P q) (e : H l = some (.lst xs)) : TabS (L2.upd H l o) P q := by
  obtain ⟨ps, hP, ht, hc⟩ := t
  refine ⟨ps, by rw [upd_ne (ne_of hP e (fun z => nomatch z))]; exact hP, ht, fun pos cv hcv => ?_⟩
  obtain ⟨c, ec, hco⟩ := hc pos cv hcv
  refine ⟨c, ec, ?_⟩
  rw [upd_ne (ne_of hco e (fun z => by unfold CodeO at z; cases z))]
  exact hco
theorem told_Lf {rs gs : List (Int × Int)} {ls : List (List (Int × Int))} (hlj : ls.length = rs.length) (htold : ∀ (i : Nat) r l, rs[i]? = some r → ls[i]? = some l → Told (fun n => (r.1 ≤ n ∧ n ≤ r.2) ∧ ¬ InS gs n) l) (hne : ∀ l ∈ ls, l ≠ []) {i : Nat} (hi : i < rs.length) :
    ∃ r l p q, rs[i]? = some r ∧ ls[i]? = some l ∧ l[0]? = some p ∧ l[l.length - 1]? = some q ∧ Lf ls i = (p.1, q.2) ∧ ((r.1 ≤ p.1 ∧ p.1 ≤ r.2) ∧ ¬ InS gs p.1) ∧ ((r.1 ≤ q.2 ∧ q.2 ≤ r.2) ∧ ¬ InS gs q.2) ∧ ∀ n, ((r.1 ≤ n ∧ n ≤ r.2) ∧ ¬ InS gs n) → p.1 ≤ n ∧ n ≤ q.2 := by
  have e1 : rs[i]? = some rs[i] := List.getElem?_eq_getElem hi
  have hi2 : i < ls.length := by omega
  have e2 : ls[i]? = some ls[i] := List.getElem?_eq_getElem hi2
  obtain ⟨p, q, h1, h2, h3, h4, h5⟩ := told_ends (htold i _ _ e1 e2) (hne _ (List.getElem_mem hi2))
  refine ⟨_, _, p, q, e1, e2, h1, h2, ?_, h3, h4, h5⟩
  unfold Lf
  rw [e2]
  simp only [h1, h2]
  rfl
theorem samp_of {rs gs : List (Int × Int)} {ls : List (List (Int × Int))} (hlj : ls.length = rs.length) (htold : ∀ (i : Nat) r l, rs[i]? = some r → ls[i]? = some l → Told (fun n => (r.1 ≤ n ∧ n ≤ r.2) ∧ ¬ InS gs n) l) (hne : ∀ l ∈ ls, l ≠ []) {os : List Nat} {ns : List Int} {ch : List Nat} (ho : ∀ i, i ∈ os ↔ i < rs.length) (g : Gr (Lf ls) os ns ch) : SampOk rs gs ns := by
  have fr : ∀ e ∈ ns, ¬ InS gs e ∧ ∃ r ∈ rs, r.1 ≤ e ∧ e ≤ r.2 := fun e he => by
    rw [g.map] at he
    obtain ⟨i, hi, rfl⟩ := List.mem_map.mp he
    obtain ⟨r, l, p, q, e1, e2, h1, h2, h3, h4, h5, h6⟩ := told_Lf hlj htold hne ((ho i).mp (g.sub i hi))
    show ¬ InS gs (Lf ls i).2 ∧ ∃ r ∈ rs, r.1 ≤ (Lf ls i).2 ∧ (Lf ls i).2 ≤ r.2
    rw [h3]
    exact ⟨h5.2, r, List.mem_of_getElem? e1, h5.1⟩
  refine ⟨fr, g.inc, fun r hr => ?_, fun row hf hh => g.low fun i hi => ?_⟩
  · obtain ⟨i, hi⟩ := List.getElem?_of_mem hr
    have lt : i < rs.length := (List.getElem?_eq_some_iff.mp hi).1
    obtain ⟨r', l, p, q, e1, e2, h1, h2, h3, h4, h5, h6⟩ := told_Lf hlj htold hne lt
    rw [hi] at e1
    cases e1
    obtain ⟨e, he, a1, a2⟩ := g.hit i ((ho i).mpr lt)
    rw [h3] at a1 a2
    refine ⟨e, he, ?_, ?_⟩
    · have : p.1 ≤ e := a1
      have := h4.1.1
      omega
    · have : e ≤ q.2 := a2
      have := h5.1.2
      omega
  · have lt := (ho i).mp hi
    obtain ⟨r', l, p, q, e1, e2, h1, h2, h3, h4, h5, h6⟩ := told_Lf hlj htold hne lt
    obtain ⟨e, he, a1, a2⟩ := hh r' (List.mem_of_getElem? e1)
    obtain ⟨b1, b2⟩ := h6 e ⟨⟨a1, a2⟩, hf e he⟩
    rw [h3]
    exact ⟨e, he, b1, b2⟩
/-- the places in the order of their greatest -/
theorem order_of (ls : List (List (Int × Int))) (n : Nat) : ∃ os : List Nat, (rngV n).mergeSort (PySem.W.dataLe false fun x => PyData.int (kI ls x)) = os.map (fun i : Nat => V.int (i : Int)) ∧ (∀ i, i ∈ os ↔ i < n) ∧ os.length = n ∧ os.Pairwise fun i j => (Lf ls i).2 ≤ (Lf ls j).2 := by
  rw [PySem.W.dataLe_int]
  have hp := List.mergeSort_perm (rngV n) (fun a b => decide (kI ls a ≤ kI ls b))
  have hs := List.pairwise_mergeSort (le := fun a b => decide (kI ls a ≤ kI ls b)) (fun a b c h1 h2 => decide_eq_true (Int.le_trans (of_decide_eq_true h1) (of_decide_eq_true h2))) (fun a b => by
    rcases Int.le_total (kI ls a) (kI ls b) with z | z
    · rw [decide_eq_true z]; rfl
    · rw [decide_eq_true z, Bool.or_true]) (rngV n)
  revert hp hs
  generalize (rngV n).mergeSort (fun a b => decide (kI ls a ≤ kI ls b)) = xs
  intro hp hs
  have bk : ∀ x ∈ xs, ∃ i : Nat, i < n ∧ x = V.int (i : Int) := fun x hx => by
    obtain ⟨i, hi, rfl⟩ := List.mem_map.mp (hp.mem_iff.mp hx)
    exact ⟨i, List.mem_range.mp hi, rfl⟩
  let nt : V → Nat := fun x => match x with | .int n => n.toNat | _ => 0
  have e : xs = (xs.map nt).map (fun i : Nat => V.int (i : Int)) := by
    rw [List.map_map]
    conv => lhs; rw [← List.map_id xs]
    refine List.map_congr_left fun x hx => ?_
    obtain ⟨i, _, rfl⟩ := bk x hx
    show V.int (i : Int) = V.int (((i : Int).toNat : Nat) : Int)
    simp
  refine ⟨xs.map nt, e, fun i => ⟨fun hi => ?_, fun hi => ?_⟩, by rw [List.length_map, hp.length_eq, List.length_map, List.length_range], ?_⟩
  · obtain ⟨x, hx, rfl⟩ := List.mem_map.mp hi
    obtain ⟨i, hi, rfl⟩ := bk x hx
    show (i : Int).toNat < n
    omega
  · exact List.mem_map.mpr ⟨V.int (i : Int), hp.mem_iff.mpr (List.mem_map.mpr ⟨i, List.mem_range.mpr hi, rfl⟩), by show (i : Int).toNat = i; omega⟩
  · rw [List.pairwise_map]
    refine List.Pairwise.imp_of_mem (fun {a b} ha hb h => ?_) hs
    obtain ⟨i, _, rfl⟩ := bk a ha
    obtain ⟨j, _, rfl⟩ := bk b hb
    exact of_decide_eq_true h
abbrev qL : Str := "least_samples" ++ ".<locals>." ++ "<lambda>"
def spLeast (K : PySem.W.Frag) (Pt : Addr) : Sp := fun vs H Q _ => ∃ (a b : Addr) (rs gs : List (Int × Int)), vs = [.ref a, .ref b] ∧ LsA H a rs ∧ LsA H b gs ∧ rs.length ≤ 700 ∧ gs.length ≤ 700 ∧ (∀ r ∈ rs, r.1 ≤ r.2) ∧ Ris 0 gs ∧ TabS H Pt qL ∧
  (∀ (i : Nat) r, rs[i]? = some r → allGB gs r = true → (∀ (j : Nat) r', j < i → rs[j]? = some r' → allGB gs r' = false) → ∀ H2 T, TbL Pt qL H H2 → H2 T = some (.tup [.str "blind", .int (i : Int)]) → Q (.ref T) H2) ∧
  ((∀ r ∈ rs, allGB gs r = false) → ∀ H2 T N A ns, TbL Pt qL H H2 → H2 T = some (.tup [.str "samples", .ref N, .ref A]) → H2 N = some (.lst (ns.map V.int)) → SampOk rs gs ns → Q (.ref T) H2)
abbrev sLeast : Stmt := topS 6
theorem scLeast : FnScope ["runs", "gone", "numbers", "apart", "place", "first", "last", "left", "run"] ["runs", "gone"] (defScope sLeast) := ⟨rfl, rfl, rfl, by decide +kernel, rfl, by decide +kernel, by decide +kernel⟩
section
variable {K : PySem.W.Frag} {mg : Str → Option Value} {P : Program} {w : World} {base : Heap}
theorem ok_Least {f : Addr} {c Pt : Addr} {oc kV doc pm ct : Value} {od an : Option Addr} {osl : Array (Option Value)}
    (lk : K.lookup f = some ⟨oc, od, .func (PySem.W.fnOf "least_samples" "least_samples" (defArgs sLeast) (defBody sLeast) (defScope sLeast) .none kV doc pm an (.ref c) ct), osl⟩) (hcd : PySem.W.codeIn K (.ref c) "least_samples" = true)
    (TB : LamX.TabB base mg c Pt) (C_without : Cal P w K mg base 3 "without" ["one", "other"] (spWithout K)) (m_sorted : mg "sorted" = none) (m_range : mg "range" = none) (m_len : mg "len" = none) :
    FnOk P w K mg base CX0 4 f (PySem.W.fnOf "least_samples" "least_samples" (defArgs sLeast) (defBody sLeast) (defScope sLeast) .none kV doc pm an (.ref c) ct) ["runs", "gone"] (spLeast K Pt) := by
  refine fn_of lk hcd scLeast (fun vs H Q E h => ?_) (fun A outer s H vs Q E hr h => ?_)
  · obtain ⟨a, b, rs, gs, rfl, _⟩ := h
    rfl
  · obtain ⟨a, b, rs, gs, rfl, hA, hB, hra, hgb, hro, hrg, hT, qb, qs⟩ := h
    refine ⟨_, PSs.nox (pss_cons (ps_set (i := 7) scLeast.nd rfl (.inr rfl) (pe_lc (own := [("run", 8)]) (g := (gName 8)) (tt := tYes) (te := (tCall (spWithout K) [] E0 (tCons (tLst (tCons (tVar 8) tNil)) (tCons (tVar 1) tNil)))) rfl scLeast.nd (pi_list (pv 0)) (blkOk_by (own := [("run", 8)]) (N := ["runs", "gone", "numbers", "apart", "place", "first", "last", "left", "run"]) (sc := defScope sLeast) (by decide +kernel)) (fun _ _ _ _ _ => (pg_name (i := 8) scLeast.nd rfl (.inl rfl))) (fun _ _ _ _ _ => pts_nil) (fun _ _ _ _ _ => (pe_own C_without hr (by rfl) (pa_cons (pe_lst (pa_cons (pv 8) pa_nil)) (pa_cons (pv 1) pa_nil))))))
      (pss_cons (ps_if (pt_cmpR (op_inD (u65 hr)) (pe_lst pa_nil) (pv 7) (by rfl)) (pss_one (ps_ret (pe_tup (pa_cons pe_str (pa_cons (pe_bm PySem.F.plainAttrs_list PySem.F.slot_list_index PySem.F.type_list_index (mt_indexD (u65 hr)) (pv 7) (pa_cons (pe_lst pa_nil) pa_nil)) pa_nil)))))
        pss_nil)
      (pss_cons (ps_set (i := 2) scLeast.nd rfl (.inl rfl) (pe_lst pa_nil))
      (pss_cons (ps_set (i := 3) scLeast.nd rfl (.inl rfl) (pe_lst pa_nil))
      (pss_cons (ps_for PassesOwn.never rfl (pi_list (pe_sortedLR TB rfl (by rfl) m_sorted hr (pa_cons (pe_callTy cr_range1 (by rfl) m_range (by decide +kernel) (pa_cons (pe_callB call_len_seq (by rfl) m_len PySem.boot_len (pa_cons (pv 7) pa_nil)) pa_nil)) pa_nil) (by rfl) (lamP_by (sc := defScope sLeast) (by decide +kernel)) (fun _ _ _ _ => rfl) (key_last1 (i := 7) (lamP_by (sc := defScope sLeast) (by decide +kernel)) rfl rfl rfl (by decide) (by decide) (by decide)))) (pg_name (i := 4) scLeast.nd rfl (.inl rfl))
        (pss_cons (ps_par rfl scLeast.nd (i := 5) (j := 6) rfl rfl (by decide) rfl rfl (pa_cons (pe_ix ix_tup (pe_ix ix_list (pe_ix ix_list (pv 7) (pv 4) (fun _ _ => rfl)) pe_int (fun _ _ => rfl)) pe_int (fun _ _ => rfl)) (pa_cons (pe_ix ix_tup (pe_ix ix_list (pe_ix ix_list (pv 7) (pv 4) (fun _ _ => rfl)) (pe_un un_neg pe_int) (fun _ _ => rfl)) pe_int (fun _ _ => rfl)) pa_nil)) (by rfl))
        (pss_one (ps_if (PW.pt (pw_or (pt_not (pt_truth (pv 2) (by intro _; rfl))) (pw_or1 (pt_cmpR op_lt (pe_ix ix_list (pv 2) (pe_un un_neg pe_int) (fun _ _ => rfl)) (pv 5) (nomark _))))) (pss_cons (ps_expr (pe_bm PySem.F.plainAttrs_list PySem.F.slot_list_append PySem.F.type_list_append mt_append (pv 2) (pa_cons (pv 6) pa_nil)))
          (pss_one (ps_expr (pe_bm PySem.F.plainAttrs_list PySem.F.slot_list_append PySem.F.type_list_append mt_append (pv 3) (pa_cons (pv 4) pa_nil)))))
          pss_nil))))
      (pss_one (ps_ret (pe_tup (pa_cons pe_str (pa_cons (pv 2) (pa_cons (pe_callB cr_sortedI (by rfl) m_sorted (by decide +kernel) (pa_cons (pv 3) pa_nil)) pa_nil))))))))))), ?_⟩
    obtain ⟨ua, ea, pa⟩ := id hA
    have hlen : ua.length = rs.length := pa.1
    refine ⟨_, rfl, a, rfl, ⟨_, SqL.of ea⟩, fun L nL => lc_list (xs := ua) (fun j H' => Same H H' ∧ ∃ us ls, H' L = some (.lst us) ∧ LR H' us ls ∧ ls.length = j ∧ (∀ v ∈ us, v ≠ .ref L) ∧ ∀ (i : Nat) r l, rs[i]? = some r → ls[i]? = some l → Told (fun n => (r.1 ≤ n ∧ n ≤ r.2) ∧ ¬ InS gs n) l) ⟨same_upd nL, [], [], upd_same, LR.nil, rfl, (fun _ h => nomatch h), fun i r l _ e => by simp at e⟩ (fun j H' _ hP => SqL.of (hP.1 _ _ ea)) (fun j x H' hx hP => ?_) (fun H1 hP => ?_)⟩
    · obtain ⟨sm, us, ls, eL, hLR, hlj, hng, htold⟩ := hP
      obtain ⟨r, T, er, rfl, eT⟩ := prs_at pa hx
      have hj : j < rs.length := (List.getElem?_eq_some_iff.mp er).1
      have hrr := hro r (List.mem_of_getElem? er)
      refine ⟨rfl, _, rfl, (by show 1 ≤ sizeLine; decide), fun l1 nl1 => ?_⟩
      have sl1 := same_upd (o := .lst [.ref T]) nl1
      have p1 : LsA (upd H' l1 (.lst [.ref T])) l1 [r] := ⟨_, upd_same, Prs.nil.snoc (sl1 _ _ (sm _ _ eT))⟩
      refine ⟨_, rfl, l1, b, [r], gs, rfl, p1.pr, (hB.same (sm.trans sl1)).pr, ⟨r.1, Int.le_refl _, hrr, True.intro⟩, ⟨0, hrg⟩, by show 1 + gs.length ≤ 800; omega, fun l2 l H4 nl2 hl2 htl _ s4 => ?_⟩
      have eL4 := s4 _ _ (sl1 _ _ eL)
      have n2L : l2 ≠ L := fun z => by rw [z, sl1 _ _ eL] at nl2; cases nl2
      have lus : us.length = j := by rw [hLR.1, hlj]
      refine ⟨_, eL4, small1000 (by omega), fun b' o e => ?_, us ++ [.ref l2], ls ++ [l], upd_same, ?_, by rw [List.length_append, hlj]; rfl, fun v hv => ?_, fun i r' l' er' el' => ?_⟩
      · rw [upd_ne (ne_of_none e nL)]
        exact s4 _ _ (sl1 _ _ (sm b' o e))
      · have h1 := (hLR.same (sl1.trans s4)).snoc hl2
        refine ⟨h1.1, fun i r' e => ?_⟩
        obtain ⟨x, f1, us', f2, f3⟩ := h1.2 i r' e
        have nx : x ≠ L := fun z => by
          have hm := List.mem_of_getElem? f1
          rcases List.mem_append.mp hm with y | y
          · exact hng _ y (by rw [z])
          · exact n2L ((V.ref.inj (List.mem_singleton.mp y)).symm.trans z)
        exact ⟨x, f1, us', by rw [upd_ne nx]; exact f2, f3.upd_lst eL4⟩
      · rcases List.mem_append.mp hv with z | z
        · exact hng v z
        · rw [List.mem_singleton.mp z]
          exact fun w => n2L (V.ref.inj w)
      · by_cases hi : i < ls.length
        · rw [List.getElem?_append_left hi] at el'
          exact htold i r' l' er' el'
        · rw [List.getElem?_append_right (by omega)] at el'
          have h0 : i - ls.length < 1 := (List.getElem?_eq_some_iff.mp el').1
          obtain rfl : i = ls.length := by omega
          rw [Nat.sub_self] at el'
          cases el'
          rw [hlj, er] at er'
          cases er'
          refine htl.cong fun n => ?_
          rw [inS_cons]
          exact ⟨fun ⟨z, y⟩ => ⟨z.elim id (fun w => absurd w inS_nil), y⟩, fun ⟨z, y⟩ => ⟨.inl z, y⟩⟩
    · obtain ⟨s1, us, ls, eL, hLR, hlj, hng, htold⟩ := hP
      rw [hlen] at hlj
      have lus : us.length = rs.length := by rw [hLR.1, hlj]
      -- which are empty
      have emp : ∀ (i : Nat) r l, rs[i]? = some r → ls[i]? = some l → (l.isEmpty = true ↔ allGB gs r = true) := fun i r l er el => by
        rw [List.isEmpty_iff, told_nil (htold i r l er el), allGB_iff]
        refine ⟨fun h n h1 h2 => ?_, fun h n ⟨⟨h1, h2⟩, h3⟩ => h3 (h n h1 h2)⟩
        exact Classical.byContradiction fun z => h n ⟨⟨h1, h2⟩, z⟩
      refine ⟨Nat.zero_le _, fun E0' nE => ?_⟩
      have sE := same_upd (o := .lst []) nE
      have dpL : ∀ {H' : Hp}, Same H1 H' → Dp K H' (.ref L) (.list (ls.map setD')) := fun s' => .lst (SqL.of (s' _ _ eL)) (dp_sets (hLR.same s'))
      refine ⟨_, rfl, .list [], ls.map setD', .lst (SqL.of upd_same) .nil, dpL sE, by rfl, shaped_sets ls, ?_⟩
      have ea' : ((ls.map setD').any fun z => PyData.eqv z (.list [])) = ls.any List.isEmpty := by
        rw [List.any_map]
        congr 1
        funext l
        exact eqv_set l
      rw [ea']
      refine ⟨_, rfl, ite2 (fun c1 => ?_) (fun c1 => ?_)⟩
      · -- one is gone whole
        have ex : ∃ l ∈ ls, List.isEmpty l = true := by
          obtain ⟨l, h1, h2⟩ := List.any_eq_true.mp c1
          exact ⟨l, h1, h2⟩
        have jl := List.findIdx_lt_length_of_exists ex
        have je := List.findIdx_getElem (p := List.isEmpty) (xs := ls) (w := jl)
        have jn : ∀ (m : Nat) l, m < ls.findIdx List.isEmpty → ls[m]? = some l → l.isEmpty = false := fun m l hm hl => by
          have := List.not_of_lt_findIdx hm
          obtain ⟨lt, e⟩ := List.getElem?_eq_some_iff.mp hl
          rw [← e]
          simpa using this
        revert jl je jn
        generalize ls.findIdx List.isEmpty = j
        intro jl je jn
        refine ⟨_, rfl, .inl ⟨rfl, _, SqL.of (sE _ _ eL)⟩, Nat.zero_le _, fun E1 nE1 => ?_⟩
        have sE1 := same_upd (o := .lst []) nE1
        refine ⟨L, .ref E1, .list [], ls.map setD', j, setD' ls[j], rfl, rfl, dpL (sE.trans sE1), .lst (SqL.of upd_same) .nil, shaped_sets ls, by rfl, by rw [List.getElem?_map, List.getElem?_eq_getElem jl]; rfl, by rw [eqv_set]; exact je, fun m z hm hz => ?_, (by show 2 ≤ sizeLine; decide), fun T nT => ?_⟩
        · rw [List.getElem?_map] at hz
          cases hl : ls[m]? with
          | none => rw [hl] at hz; cases hz
          | some l =>
            rw [hl] at hz
            cases hz
            rw [eqv_set]
            exact jn m l hm hl
        · have jr : j < rs.length := by omega
          have sT := same_upd (o := .tup [.str "blind", .int (j : Int)]) nT
          refine qb j rs[j] (List.getElem?_eq_getElem jr) ((emp j _ _ (List.getElem?_eq_getElem jr) (List.getElem?_eq_getElem jl)).mp je) (fun m r' hm hr' => ?_) _ T (TbL.of hT (((s1.trans sE).trans sE1).trans sT)) upd_same
          have ml : m < ls.length := by omega
          have := jn m _ hm (List.getElem?_eq_getElem ml)
          cases hg : allGB gs r' with
          | false => rfl
          | true =>
            rw [(emp m r' _ hr' (List.getElem?_eq_getElem ml)).mpr hg] at this
            cases this
      · -- none is
        have hne : ∀ l ∈ ls, l ≠ [] := fun l hl z => c1 (List.any_eq_true.mpr ⟨l, hl, by rw [z]; rfl⟩)
        have none : ∀ r ∈ rs, allGB gs r = false := fun r hr => by
          obtain ⟨m, hm⟩ := List.getElem?_of_mem hr
          have ml : m < ls.length := by rw [hlj]; exact (List.getElem?_eq_some_iff.mp hm).1
          cases hg : allGB gs r with
          | false => rfl
          | true =>
            have := (emp m r _ hm (List.getElem?_eq_getElem ml)).mpr hg
            rw [List.isEmpty_iff] at this
            exact absurd this (hne _ (List.getElem_mem ml))
        refine ⟨Nat.zero_le _, fun N nN => ⟨Nat.zero_le _, fun A2 nA2 => ?_⟩⟩
        have sN := same_upd (o := .lst []) nN
        have sA := same_upd (o := .lst []) nA2
        have s0 := ((s1.trans sE).trans sN).trans sA
        have eLa := ((sE.trans sN).trans sA) _ _ eL
        have hLRa := hLR.same ((sE.trans sN).trans sA)
        have nNA : N ≠ A2 := fun z => by
          have := upd_same (H := upd H1 E0' (.lst [])) (a := N) (o := .lst [])
          rw [← z, this] at nA2
          cases nA2
        refine ⟨_, rfl, L, us, rfl, .inl (SqL.of eLa), (rs.length : Int), by rw [lus], fun R nR => ?_⟩
        have sR := same_upd (o := .rng 0 (rs.length : Int)) nR
        refine ⟨hT.ext (s0.trans sR), R, rs.length, fun x => PyData.int (kI ls x), rfl, upd_same, by omega, ?_, ?_, ?_, ?_, ?_⟩
        · intro d1 h1 d2 h2
          obtain ⟨x1, _, rfl⟩ := List.mem_map.mp h1
          obtain ⟨x2, _, rfl⟩ := List.mem_map.mp h2
          rfl
        · refine .inr fun d1 h1 => ?_
          obtain ⟨x1, _, rfl⟩ := List.mem_map.mp h1
          exact ⟨(fun z => nomatch z), fun _ z => nomatch z⟩
        · intro x _
          show PyData.depth (PyData.int _) ≤ 8
          rw [PyData.depth]
          omega
        · intro x hx H2 tb
          obtain ⟨i, hi, rfl⟩ := List.mem_map.mp hx
          have hi := List.mem_range.mp hi
          obtain ⟨r, l, p, q, e1, e2, h1, h2, h3, h4, h5, h6⟩ := told_Lf hlj htold hne hi
          have hLR2 := (hLRa.same sR).tbl tb
          obtain ⟨m, f1, ms, em, pm'⟩ := hLR2.2 i l e2
          obtain ⟨T, g1, g2⟩ := pm'.2 (l.length - 1) q h2
          refine ⟨L, m, T, us, ms, _, (i : Int), q.2, rfl, rfl, SqL.of (tb.lst (sR _ _ eLa)), atI_nat f1, SqL.of em, ?_, .inl (.inl g2), atI_nat (j := 1) rfl, ?_⟩
          · exact atI_m1 (by rw [pm'.1]; exact g1)
          · show PyData.int (Lf ls (i : Int).toNat).2 = _
            rw [show ((i : Int).toNat) = i by omega, h3]
        · intro H2 p tb np
          obtain ⟨os, eo, ho, hol, hos⟩ := order_of ls rs.length
          rw [eo]
          have sp := same_upd (o := .lst (os.map fun i : Nat => V.int (i : Int))) np
          have tb2 := tb.trans (TbL.of tb.1 sp)
          have eLp := tb2.lst (sR _ _ eLa)
          have hLRp := (hLRa.same sR).tbl tb2
          have eNp := tb2.lst (sR _ _ (sA _ _ (upd_same (H := upd H1 E0' (.lst [])) (a := N) (o := .lst []))))
          have eAp := tb2.lst (sR _ _ (upd_same (H := upd (upd H1 E0' (.lst [])) N (.lst [])) (a := A2) (o := .lst [])))
          have epp : upd H2 p (.lst (os.map fun i : Nat => V.int (i : Int))) p = some (.lst (os.map fun i : Nat => V.int (i : Int))) := upd_same
          have hT2 := tb2.1
          have npN : p ≠ N := fun z => by rw [z, tb.lst (sR _ _ (sA _ _ (upd_same (H := upd H1 E0' (.lst [])) (a := N) (o := .lst []))))] at np; cases np
          have npA : p ≠ A2 := fun z => by rw [z, tb.lst (sR _ _ (upd_same (H := upd (upd H1 E0' (.lst [])) N (.lst [])) (a := A2) (o := .lst [])))] at np; cases np
          have nLN : L ≠ N := fun z => by rw [z] at eL; rw [sE _ _ eL] at nN; cases nN
          have nLA : L ≠ A2 := fun z => by rw [z] at eL; rw [sN _ _ (sE _ _ eL)] at nA2; cases nA2
          have tb0 : TbL Pt qL H (upd H2 p (.lst (os.map fun i : Nat => V.int (i : Int)))) := (TbL.of hT (s0.trans sR)).trans tb2
          have oldN : ∀ b' o, H b' = some o → b' ≠ N ∧ b' ≠ A2 := fun b' o e => ⟨ne_of_none (sE _ _ (s1 _ _ e)) nN, ne_of_none (sN _ _ (sE _ _ (s1 _ _ e))) nA2⟩
          -- the sets' lists stay
          have offL : ∀ (i : Nat) l m, ls[i]? = some l → us[i]? = some (.ref m) → m ≠ N ∧ m ≠ A2 := fun i l m el em => by
            obtain ⟨m', f1, ms, f2, _⟩ := hLR.2 i l el
            rw [em] at f1
            cases f1
            exact ⟨ne_of_none (sE _ _ f2) nN, ne_of_none (sN _ _ (sE _ _ f2)) nA2⟩
          generalize upd H2 p (.lst (os.map fun i : Nat => V.int (i : Int))) = H3 at *
          refine ⟨p, rfl, ⟨_, SqL.of epp⟩, for_list (xs := os.map fun i : Nat => V.int (i : Int)) (fun i σ Hx => ∃ (ns : List Int) (ch : List Nat) (y4 y5 y6 y8 : Option V), σ = [some (.ref a), some (.ref b), some (.ref N), some (.ref A2), y4, y5, y6, some (.ref L), y8] ∧ Gr (Lf ls) (os.take i) ns ch ∧ ch.length ≤ i ∧ Hx N = some (.lst (ns.map V.int)) ∧ Hx A2 = some (.lst ((ch.map fun i : Nat => (i : Int)).map V.int)) ∧ TabS Hx Pt qL ∧ ∀ b' o, b' ≠ N → b' ≠ A2 → H3 b' = some o → Hx b' = some o) ⟨[], [], _, _, _, _, rfl, Gr.nil _, Nat.le_refl _, eNp, eAp, hT2, fun _ _ _ _ e => e⟩ (fun i σ Hx _ hP => ?_) (fun i x σ Hx hx hP => ?_) (fun σ Hx hP => ?_)⟩
          · obtain ⟨ns, ch, y4, y5, y6, y8, rfl, hG, hcl, eN, eA, hTx, kp⟩ := hP
            exact SqL.of (kp _ _ npN npA epp)
          · obtain ⟨ns, ch, y4, y5, y6, y8, rfl, hG, hcl, eN, eA, hTx, kp⟩ := hP
            have hi : i < os.length := by
              have := (List.getElem?_eq_some_iff.mp hx).1
              rwa [List.length_map] at this
            have eoi : os[i]? = some os[i] := List.getElem?_eq_getElem hi
            rw [List.getElem?_map, eoi] at hx
            cases hx
            have lt : os[i] < rs.length := (ho _).mp (List.getElem_mem hi)
            obtain ⟨r, l, p0, q0, e1, e2, h1, h2, h3, h4, h5, h6⟩ := told_Lf hlj htold hne lt
            obtain ⟨m, f1, ms, em, pm'⟩ := hLRp.2 os[i] l e2
            obtain ⟨T0, g1, g2⟩ := pm'.2 0 p0 h1
            obtain ⟨T1, g3, g4⟩ := pm'.2 (l.length - 1) q0 h2
            obtain ⟨o1, o2⟩ := offL os[i] l m e2 f1
            have eLx := kp _ _ nLN nLA eLp
            have emx := kp _ _ o1 o2 em
            have tN : ∀ {T : Addr} {z : List V}, H3 T = some (.tup z) → T ≠ N ∧ T ≠ A2 := fun e => ⟨ne_of e eNp (fun z => nomatch z), ne_of e eAp (fun z => nomatch z)⟩
            have g2x := kp _ _ (tN g2).1 (tN g2).2 g2
            have g4x := kp _ _ (tN g4).1 (tN g4).2 g4
            refine ⟨_, rfl, _, rfl, L, _, (os[i] : Int), _, rfl, rfl, SqL.of eLx, atI_nat f1, m, _, 0, _, rfl, rfl, SqL.of emx, atI_nat (j := 0) g1, T0, _, 0, _, rfl, rfl, .inl (.inl g2x), atI_nat (j := 0) rfl, ?_⟩
            refine ⟨_, rfl, _, rfl, L, _, (os[i] : Int), _, rfl, rfl, SqL.of eLx, atI_nat f1, 1, rfl, m, _, -1, _, rfl, rfl, SqL.of emx, atI_m1 (by rw [pm'.1]; exact g3), T1, _, 1, _, rfl, rfl, .inl (.inl g4x), atI_nat (j := 1) rfl, _, _, rfl, ?_⟩
            have et : os.take (i + 1) = os.take i ++ [os[i]] := by rw [List.take_add_one, eoi]; rfl
            have L1 : (Lf ls os[i]).1 = p0.1 := by rw [h3]
            have L2' : (Lf ls os[i]).2 = q0.2 := by rw [h3]
            have le12 : (Lf ls os[i]).1 ≤ (Lf ls os[i]).2 := by
              rw [L1, L2']
              exact (h6 p0.1 h4).2
            have prev : ∀ j ∈ os.take i, (Lf ls j).2 ≤ (Lf ls os[i]).2 := fun j hj => by
              have hp := hos
              rw [← List.take_append_drop i os, List.pairwise_append] at hp
              exact hp.2.2 j hj _ (by rw [List.drop_eq_getElem_cons hi]; exact List.mem_cons_self ..)
            have app : (∀ e ∈ ns, e < (Lf ls os[i]).1) → ∃ (ns' : List Int) (ch' : List Nat) (y4 y5 y6 y8' : Option V), [some (V.ref a), some (.ref b), some (.ref N), some (.ref A2), some (.int (os[i] : Int)), some (.int p0.1), some (.int q0.2), some (.ref L), y8] = [some (.ref a), some (.ref b), some (.ref N), some (.ref A2), y4, y5, y6, some (.ref L), y8'] ∧ Gr (Lf ls) (os.take (i + 1)) ns' ch' ∧ ch'.length ≤ i + 1 ∧ upd (upd Hx N (.lst (ns.map V.int ++ [.int q0.2]))) A2 (.lst ((ch.map fun i : Nat => (i : Int)).map V.int ++ [.int (os[i] : Int)])) N = some (.lst (ns'.map V.int)) ∧ upd (upd Hx N (.lst (ns.map V.int ++ [.int q0.2]))) A2 (.lst ((ch.map fun i : Nat => (i : Int)).map V.int ++ [.int (os[i] : Int)])) A2 = some (.lst ((ch'.map fun i : Nat => (i : Int)).map V.int)) ∧ TabS (upd (upd Hx N (.lst (ns.map V.int ++ [.int q0.2]))) A2 (.lst ((ch.map fun i : Nat => (i : Int)).map V.int ++ [.int (os[i] : Int)]))) Pt qL ∧ ∀ b' o, b' ≠ N → b' ≠ A2 → H3 b' = some o → upd (upd Hx N (.lst (ns.map V.int ++ [.int q0.2]))) A2 (.lst ((ch.map fun i : Nat => (i : Int)).map V.int ++ [.int (os[i] : Int)])) b' = some o := fun lt' => by
              refine ⟨ns ++ [q0.2], ch ++ [os[i]], _, _, _, _, rfl, ?_, by rw [List.length_append]; show ch.length + 1 ≤ _; omega, ?_, ?_, ?_, fun b' o b1 b2 e => ?_⟩
              · rw [et, ← L2']
                exact hG.take le12 lt'
              · rw [upd_ne nNA, upd_same, List.map_append]
                rfl
              · rw [upd_same, List.map_append, List.map_append]
                rfl
              · exact TabS.upd (xs := (ch.map fun i : Nat => (i : Int)).map V.int) (TabS.upd hTx eN) (by rw [upd_ne nNA.symm]; exact eA)
              · rw [upd_ne b2, upd_ne b1]
                exact kp b' o b1 b2 e
            have skip : ∀ e ∈ ns, (Lf ls os[i]).1 ≤ e → ∃ (ns' : List Int) (ch' : List Nat) (y4 y5 y6 y8' : Option V), [some (V.ref a), some (.ref b), some (.ref N), some (.ref A2), some (.int (os[i] : Int)), some (.int p0.1), some (.int q0.2), some (.ref L), y8] = [some (.ref a), some (.ref b), some (.ref N), some (.ref A2), y4, y5, y6, some (.ref L), y8'] ∧ Gr (Lf ls) (os.take (i + 1)) ns' ch' ∧ ch'.length ≤ i + 1 ∧ Hx N = some (.lst (ns'.map V.int)) ∧ Hx A2 = some (.lst ((ch'.map fun i : Nat => (i : Int)).map V.int)) ∧ TabS Hx Pt qL ∧ ∀ b' o, b' ≠ N → b' ≠ A2 → H3 b' = some o → Hx b' = some o := fun e he hle => ⟨ns, ch, _, _, _, _, rfl, by rw [et]; exact hG.skip prev he hle, by omega, eN, eA, hTx, kp⟩
            have lns : ns.length = ch.length := by rw [hG.map, List.length_map]
            refine ⟨_, rfl, _, .inl ⟨_, SqL.of eN, rfl⟩, ?_⟩
            have eA' : upd Hx N (.lst (ns.map V.int ++ [.int q0.2])) A2 = some (.lst ((ch.map fun i : Nat => (i : Int)).map V.int)) := by rw [upd_ne nNA.symm]; exact eA
            have sm1 : (ns.map V.int).length < sizeLine := small1000 (by rw [List.length_map]; omega)
            have sm2 : ((ch.map fun i : Nat => (i : Int)).map V.int).length < sizeLine := small1000 (by rw [List.length_map, List.length_map]; omega)
            refine ite2 (fun c2 => ite2 (fun _ => ?_) (fun z => absurd rfl z)) (fun c2 => ?_)
            · have c2 : (!(!(ns.map V.int).isEmpty)) = true := c2
              have n0 : ns = [] := by
                cases ns with
                | nil => rfl
                | cons => simp at c2
              exact ⟨_, rfl, .inl ⟨rfl, _, SqL.of eN⟩, _, rfl, N, _, _, rfl, rfl, eN, sm1, _, rfl, .inl ⟨rfl, _, SqL.of eA'⟩, _, rfl, A2, _, _, rfl, rfl, eA', sm2, app (fun e he => by rw [n0] at he; cases he)⟩
            · have c2 : ¬ (!(!(ns.map V.int).isEmpty)) = true := c2
              have n0 : ns ≠ [] := fun z => c2 (by rw [z]; rfl)
              obtain ⟨ns0, e0, e0e⟩ : ∃ ns0 e0, ns = ns0 ++ [e0] := ⟨_, _, (List.dropLast_concat_getLast n0).symm⟩
              have at0 : atI (ns.map V.int) (-1) = some (.int e0) := by
                rw [e0e, List.map_append]
                exact atI_last _ _
              have mx : ∀ e ∈ ns, e ≤ e0 := fun e he => by
                have hi' := hG.inc
                rw [e0e, List.pairwise_append] at hi'
                rw [e0e] at he
                rcases List.mem_append.mp he with z | z
                · exact Int.le_of_lt (hi'.2.2 e z e0 (List.mem_singleton.mpr rfl))
                · rw [List.mem_singleton.mp z]; exact Int.le_refl _
              refine ⟨_, rfl, 1, rfl, N, _, -1, _, rfl, rfl, SqL.of eN, at0, _, rfl, _, _, rfl, rfl, _, rfl, ite2 (fun c3 => ?_) (fun c3 => ?_)⟩
              · have lt3 : e0 < p0.1 := of_decide_eq_true c3
                exact ⟨_, rfl, .inl ⟨rfl, _, SqL.of eN⟩, _, rfl, N, _, _, rfl, rfl, eN, sm1, _, rfl, .inl ⟨rfl, _, SqL.of eA'⟩, _, rfl, A2, _, _, rfl, rfl, eA', sm2, app (fun e he => by have := mx e he; rw [L1]; omega)⟩
              · have le3 : p0.1 ≤ e0 := by
                  have : ¬ e0 < p0.1 := fun z => c3 (decide_eq_true z)
                  omega
                exact skip e0 (by rw [e0e]; exact List.mem_append_right _ (List.mem_singleton.mpr rfl)) (by rw [L1]; exact le3)
          · obtain ⟨ns, ch, y4, y5, y6, y8, rfl, hG, hcl, eN, eA, hTx, kp⟩ := hP
            rw [List.length_map, List.take_length] at hG
            refine ⟨_, rfl, _, rfl, A2, _, rfl, SqL.of eA, fun ns' p' _ _ np' => ⟨(by show 3 ≤ sizeLine; decide), fun T nT => ?_⟩⟩
            have s5 := same_upd (o := .lst (ns'.map V.int)) np'
            have s6 := same_upd (o := .tup [.str "samples", .ref N, .ref p']) nT
            refine qs none _ T N p' ns ⟨hTx.ext (s5.trans s6), fun b' o e nt => s6 _ _ (s5 _ _ (kp b' o (oldN b' o e).1 (oldN b' o e).2 (tb0.2 b' o e nt)))⟩ upd_same (s6 _ _ (s5 _ _ eN)) (samp_of hlj htold hne (fun i => ho i) hG)
end

open LamX
/-! ### the law of k40 -/
def spLaw (K : PySem.W.Frag) (Pt : Addr) : Sp := fun vs H Q _ => ∃ (a : Addr) (ns : List Int), vs = [.ref a] ∧ SqL K H a (ns.map V.int) ∧ ns.length ≤ 63 ∧ TabS H Pt qL ∧ ∀ H', Q (.bl true) H'
abbrev sLaw : Stmt := topS 14
theorem scLaw : FnScope ["_law_script", "_law_state", "_law_turn", "_law_runs_here", "_law_gone_here", "_law_told", "_law_due", "_law_place"] ["_law_script"] (defScope sLaw) := ⟨rfl, rfl, rfl, by decide +kernel, rfl, by decide +kernel, by decide +kernel⟩
theorem tabS_kp {H H' : Hp} {P : Addr} {q : Str} {d c : Addr} {t : Int} (h : TabS H P q) (S : StAt H d c t) (k : Kp d c H H') : TabS H' P q := by
  obtain ⟨ps, hP, ht, hc⟩ := h
  obtain ⟨cs, ec, _⟩ := S.cells
  refine ⟨ps, k _ _ (ne_of hP S.dict (fun z => nomatch z)) (ne_of hP ec (fun z => nomatch z)) hP, ht, fun pos cv hcv => ?_⟩
  obtain ⟨x, ex, hx⟩ := hc pos cv hcv
  exact ⟨x, ex, k _ _ (ne_of hx S.dict (fun z => by unfold CodeO at z; cases z)) (ne_of hx ec (fun z => by unfold CodeO at z; cases z)) hx⟩
theorem StAt.tbl {P : Addr} {q : Str} {H H2 : Hp} {d c : Addr} {t : Int} (S : StAt H d c t) (x : TbL P q H H2) : StAt H2 d c t := by
  obtain ⟨cs, ec, r⟩ := S.cells
  exact ⟨x.2 _ _ S.dict (fun _ z => nomatch z), ⟨cs, x.lst ec, r⟩, S.pos⟩
theorem shaped_bl (j : Int) : SeqAt.shaped (PyData.tuple [PyData.str "blind", PyData.int j]) = true := by
  unfold SeqAt.shaped
  have h : PyData.strOk "blind" = true := by decide +kernel
  simp [PyData.canLay0, PyData.canLayAll0, PyData.depth, PyData.depthAll, h]
theorem free_mem {gs : List (Int × Int)} {e : Int} (h : ¬ InS gs e) (h0 : 0 ≤ e) (h8 : e ≤ 8) : e ∈ freeL gs := by
  unfold freeL
  rw [List.mem_filter]
  refine ⟨?_, ?_⟩
  · have : e = 0 ∨ e = 1 ∨ e = 2 ∨ e = 3 ∨ e = 4 ∨ e = 5 ∨ e = 6 ∨ e = 7 ∨ e = 8 := by omega
    rcases this with rfl | rfl | rfl | rfl | rfl | rfl | rfl | rfl | rfl <;> decide
  · cases hg : goneB gs e with
    | false => rfl
    | true => exact absurd (goneB_iff.mp hg) h
theorem free_not {gs : List (Int × Int)} {e : Int} (h : e ∈ freeL gs) : ¬ InS gs e := fun z => by
  have := (List.mem_filter.mp h).2
  rw [goneB_iff.mpr z] at this
  cases this
theorem free_inc (gs : List (Int × Int)) : (freeL gs).Pairwise (· < ·) := List.Pairwise.filter _ (by decide)
theorem cnts_samp {rs gs : List (Int × Int)} {ns : List Int} (hr : RunOk 8 rs) (h : SampOk rs gs ns) : ns.length ∈ cntsF rs gs ∧ ∀ c ∈ cntsF rs gs, ns.length ≤ c := by
  have hm : ns ∈ rowsF (freeL gs) := rows_inc (free_inc gs) h.inc fun e he => by
    obtain ⟨h1, r, h2, h3, h4⟩ := h.free e he
    obtain ⟨g0, g1, g2⟩ := hr r h2
    exact free_mem h1 (by omega) (by omega)
  refine ⟨List.mem_map.mpr ⟨ns, List.mem_filter.mpr ⟨hm, hitB_iff.mpr h.hit⟩, rfl⟩, fun c hc => ?_⟩
  obtain ⟨row, hrow, rfl⟩ := List.mem_map.mp hc
  obtain ⟨h1, h2⟩ := List.mem_filter.mp hrow
  exact h.low row (fun e he => free_not (rows_mem h1 e he)) (hitB_iff.mp h2)
theorem cnts_blind {rs gs : List (Int × Int)} {r : Int × Int} (hr : r ∈ rs) (hg : allGB gs r = true) : cntsF rs gs = [] := by
  unfold cntsF
  rw [List.map_eq_nil_iff, List.filter_eq_nil_iff]
  intro row hrow hh
  obtain ⟨e, he, h1, h2⟩ := hitB_iff.mp hh r hr
  exact free_not (rows_mem hrow e he) (allGB_iff.mp hg e h1 h2)
/-- the first that is gone whole, if any -/
theorem first_gone (gs : List (Int × Int)) : ∀ rs : List (Int × Int), (∀ r ∈ rs, allGB gs r = false) ∨ ∃ (i : Nat) (r : Int × Int), rs[i]? = some r ∧ allGB gs r = true ∧ ∀ (j : Nat) r', j < i → rs[j]? = some r' → allGB gs r' = false := fun rs => by
  by_cases h : ∃ r ∈ rs, allGB gs r = true
  · right
    have jl := List.findIdx_lt_length_of_exists (p := allGB gs) h
    refine ⟨rs.findIdx (allGB gs), rs[rs.findIdx (allGB gs)], List.getElem?_eq_getElem jl, List.findIdx_getElem (w := jl), fun j r' hj hr' => ?_⟩
    have := List.not_of_lt_findIdx hj
    obtain ⟨lt, e⟩ := List.getElem?_eq_some_iff.mp hr'
    rw [← e]
    simpa using this
  · left
    intro r hr
    cases hg : allGB gs r with
    | false => rfl
    | true => exact absurd ⟨r, hr, hg⟩ h
section
variable {K : PySem.W.Frag} {mg : Str → Option Value} {P : Program} {w : World} {base : Heap}
theorem ok_Law {f : Addr} {fd : FuncData} (F : Fun K "law" "law" sLaw f fd) (C__law_begin : Cal P w K mg base 1 "_law_begin" ["_law_script"] (spBegin K)) (C__law_runs : Cal P w K mg base 2 "_law_runs" ["_law_state", "_law_many", "_law_most", "_law_wide"] spRuns) (C__law_take : Cal P w K mg base 1 "_law_take" ["_law_state", "_law_many"] spTake) (C__law_gone : Cal P w K mg base 2 "_law_gone" ["_law_state", "_law_most", "_law_rare"] spGone) (C_least_samples : Cal P w K mg base 4 "least_samples" ["runs", "gone"] (spLeast K Pt)) (C__law_fewest : Cal P w K mg base 1 "_law_fewest" ["_law_runs_here", "_law_gone_here"] (spFew K)) (C__law_first_blind : Cal P w K mg base 1 "_law_first_blind" ["_law_runs_here", "_law_gone_here"] (spBlind K)) (m_range : mg "range" = none) (m_list : mg "list" = none) (m_isinstance : mg "isinstance" = none) (m_bool : mg "bool" = none) (m_len : mg "len" = none) : FnOk P w K mg base CX0 5 f fd ["_law_script"] (spLaw K Pt) := by
  refine F.ok scLaw (fun vs H Q E h => ?_) (fun cdv A outer s H vs Q E hr h => ?_)
  · obtain ⟨a, ns, rfl, _⟩ := h
    rfl
  · obtain ⟨a, ns, rfl, hA, hl, hT, q⟩ := h
    refine ⟨_, pss_cons (ps_set (i := 1) scLaw.nd rfl (.inl rfl) (pe_own C__law_begin (hr.mono (show 1 ≤ 4 by decide)) (by rfl) (pa_cons (pv 0) pa_nil)))
      (pss_cons (ps_for PassesOwn.never rfl (pi_range1 rfl m_range (pa_cons pe_int pa_nil)) (pg_name (i := 2) scLaw.nd rfl (.inl rfl))
        (pss_cons (ps_set (i := 3) scLaw.nd rfl (.inl rfl) (pe_own C__law_runs (hr.mono (show 2 ≤ 4 by decide)) (by rfl) (pa_cons (pv 1) (pa_cons (pe_op op_add pe_int (pe_own C__law_take (hr.mono (show 1 ≤ 4 by decide)) (by rfl) (pa_cons (pv 1) (pa_cons pe_int pa_nil)))) (pa_cons pe_int (pa_cons (pe_ix ix_list (pe_lst (pa_cons pe_int (pa_cons pe_int (pa_cons pe_int pa_nil)))) (pe_own C__law_take (hr.mono (show 1 ≤ 4 by decide)) (by rfl) (pa_cons (pv 1) (pa_cons pe_int pa_nil))) (fun _ _ => rfl)) pa_nil))))))
        (pss_cons (ps_set (i := 4) scLaw.nd rfl (.inl rfl) (pe_own C__law_gone (hr.mono (show 2 ≤ 4 by decide)) (by rfl) (pa_cons (pv 1) (pa_cons pe_int (pa_cons (pe_ix ix_list (pe_lst (pa_cons pe_int (pa_cons pe_int (pa_cons pe_int pa_nil)))) (pe_own C__law_take (hr.mono (show 1 ≤ 4 by decide)) (by rfl) (pa_cons (pv 1) (pa_cons pe_int pa_nil))) (fun _ _ => rfl)) pa_nil)))))
        (pss_cons (ps_par rfl scLaw.nd (i := 5) (j := 6) rfl rfl (by decide) rfl rfl (pa_cons (pe_own C_least_samples hr (by rfl) (pa_cons (pe_callTy call_list_of (by rfl) m_list (by decide +kernel) (pa_cons (pv 3) pa_nil)) (pa_cons (pe_callTy call_list_of (by rfl) m_list (by decide +kernel) (pa_cons (pv 4) pa_nil)) pa_nil))) (pa_cons (pe_own C__law_fewest (hr.mono (show 1 ≤ 4 by decide)) (by rfl) (pa_cons (pv 3) (pa_cons (pv 4) pa_nil))) pa_nil)) (by rfl))
        (pss_one (ps_if (pt_cmpR op_isN (pv 6) pe_non (nomark _)) (pss_cons (ps_set (i := 7) scLaw.nd rfl (.inl rfl) (pe_own C__law_first_blind (hr.mono (show 1 ≤ 4 by decide)) (by rfl) (pa_cons (pv 3) (pa_cons (pv 4) pa_nil))))
          (pss_one (ps_if (PW.pt (pw_or (pt_cmpR (op_neD hr.units) (pv 5) (pe_tup (pa_cons pe_str (pa_cons (pv 7) pa_nil))) (nomark _)) (pw_or1 (pt_val (pe_callB call_isi (by rfl) m_isinstance (by decide +kernel) (pa_cons (pe_ix ix_tup (pv 5) pe_int (fun _ _ => rfl)) (pa_cons (pe_bltn (v := .ty "bool") (by rfl) m_bool (by decide +kernel) rfl) pa_nil))))))) (pss_one (ps_ret pe_bl))
            pss_nil)))
          (pss_one (ps_if (PW.pt (pw_or (pt_cmpR op_ne (pe_ix ix_tup (pv 5) pe_int (fun _ _ => rfl)) pe_str (nomark _)) (pw_or1 (pt_cmpR op_ne (pe_callB call_len_seq (by rfl) m_len PySem.boot_len (pa_cons (pe_ix ix_tup (pv 5) pe_int (fun _ _ => rfl)) pa_nil)) (pv 6) (nomark _))))) (pss_one (ps_ret pe_bl))
            pss_nil))))))))
      (pss_one (ps_ret pe_bl))), ?_⟩
    refine ⟨.ref a, rfl, a, ns, rfl, hA, hl, fun d c H1 s1 nd nc hS1 => ?_⟩
    have hT1 := hT.ext s1
    refine ⟨4, rfl, by decide, by decide, for_range (n := 4) (fun i σ Hx => ∃ (t : Int) (y2 y3 y4 y5 y6 y7 : Option V), σ = [some (.ref a), some (.ref d), y2, y3, y4, y5, y6, y7] ∧ 0 ≤ t ∧ t ≤ 1000 * (i : Int) ∧ StAt Hx d c t ∧ TabS Hx Pt qL) ⟨0, _, _, _, _, _, _, rfl, by decide, by decide, hS1, hT1⟩ (fun i σ Hx hi hP => ?_) (fun σ Hx hP => ?_)⟩
    · obtain ⟨t, y2, y3, y4, y5, y6, y7, rfl, u0, u1, hS, hTx⟩ := hP
      have hi' : (i : Int) < 4 := by omega
      refine ⟨_, rfl, _, rfl, d, c, t, 6, rfl, hS, by omega, by decide, by decide, fun r1 H2 r10 r11 hS2 k2 => ⟨_, _, rfl, rfl, ?_⟩⟩
      refine ⟨(by show 3 ≤ sizeLine; decide), fun L nL => ?_⟩
      have sL := same_upd (o := .lst [.int 2, .int 4, .int 9]) nL
      have offL := hS2.off nL
      refine ⟨_, rfl, d, c, t + 1, 3, rfl, hS2.same sL, by omega, by decide, by decide, fun r2 H3 r20 r21 hS3 k3 => ?_⟩
      obtain ⟨wd, ⟨wd1, wd2⟩, ew⟩ := pick3 (fun v => 1 ≤ v ∧ v ≤ 9) (x := 2) (y := 4) (z := 9) r20 r21 (by decide) (by decide) (by decide)
      have hT3 := tabS_kp ((tabS_kp hTx hS k2).ext sL) (hS2.same sL) k3
      refine ⟨L, _, r2, _, rfl, rfl, SqL.of (k3 _ _ offL.1 offL.2 upd_same), ew, d, c, t + 1 + 1, 1 + r1, 8, wd, rfl, hS3, by omega, by omega, by omega, by decide, by decide, wd1, by omega, fun ra rs H4 t4 nra hra hro hrl w0 w1 hS4 k4 => ?_⟩
      have hT4 := tabS_kp hT3 hS3 k4
      have offr := hS3.off nra
      refine ⟨_, rfl, (by show 3 ≤ sizeLine; decide), fun L2 nL2 => ?_⟩
      have sL2 := same_upd (o := .lst [.int 1, .int 2, .int 4]) nL2
      have offL2 := hS4.off nL2
      refine ⟨_, rfl, d, c, t4, 3, rfl, hS4.same sL2, by omega, by decide, by decide, fun r3 H5 r30 r31 hS5 k5 => ?_⟩
      obtain ⟨re, ⟨re1, re2⟩, ee⟩ := pick3 (fun v => 1 ≤ v ∧ v ≤ 4) (x := 1) (y := 2) (z := 4) r30 r31 (by decide) (by decide) (by decide)
      have hT5 := tabS_kp (hT4.ext sL2) (hS4.same sL2) k5
      have hra5 := (hra.same sL2).kp (hS4.same sL2) k5 offr
      refine ⟨L2, _, r3, _, rfl, rfl, SqL.of (k5 _ _ offL2.1 offL2.2 upd_same), ee, d, c, t4 + 1, 8, re, rfl, hS5, by omega, re1, by omega, fun ga gs H6 t6 nga hga hgr hg8 hgl w60 w61 hS6 k6 => ?_⟩
      have hT6 := tabS_kp hT5 hS5 k6
      have hra6 := hra5.kp hS5 k6 offr
      -- handed as new lists
      obtain ⟨ur, er, pr⟩ := id hra6
      refine ⟨_, rfl, ra, _, rfl, .inl (SqL.of er), fun l1 nl1 => ?_⟩
      have sl1 := same_upd (o := .lst ur) nl1
      obtain ⟨ug, eg, pg⟩ := id hga
      refine ⟨_, rfl, ga, _, rfl, .inl (SqL.of (sl1 _ _ eg)), fun l2 nl2 => ?_⟩
      have sl2 := same_upd (o := .lst ug) nl2
      have s12 := sl1.trans sl2
      have h1 : LsA (upd (upd H6 l1 (.lst ur)) l2 (.lst ug)) l1 rs := ⟨ur, sl2 _ _ upd_same, pr.same s12⟩
      have h2 : LsA (upd (upd H6 l1 (.lst ur)) l2 (.lst ug)) l2 gs := ⟨ug, upd_same, pg.same s12⟩
      have lr : rs.length ≤ 6 := by omega
      have hT7 := hT6.ext s12
      have hS7 := hS6.same s12
      have hra7 := hra6.same s12
      have hga7 := hga.same s12
      have ro900 : RunOk 900 rs := fun r hr => by obtain ⟨g0, g1, g2⟩ := hro r hr; exact ⟨g0, g1, by omega⟩
      have cont : ∀ (t' : Int) (H' : Hp) (y5 y6 y7 : Option V), t6 = t' → StAt H' d c t' → TabS H' Pt qL → ∃ (t : Int) (y2 y3 y4 y5' y6' y7' : Option V), [some (V.ref a), some (.ref d), some (.int (0 + (i : Int))), some (.ref ra), some (.ref ga), y5, y6, y7] = [some (.ref a), some (.ref d), y2, y3, y4, y5', y6', y7'] ∧ 0 ≤ t ∧ t ≤ 1000 * ((i + 1 : Nat) : Int) ∧ StAt H' d c t ∧ TabS H' Pt qL := fun t' H' y5 y6 y7 e S T => ⟨t', _, _, _, _, _, _, rfl, by omega, by omega, S, T⟩
      refine ⟨l1, l2, rs, gs, rfl, h1, h2, by omega, by omega, fun r hr => (hro r hr).2.1, hgr, hT7, ?_, ?_⟩
      · intro j r ej hj hjn H8 T x8 eT
        have hS8 := hS7.tbl x8
        refine ⟨_, rfl, _, rfl, ra, ga, rs, gs, rfl, hra7.tbl x8, hga7.tbl x8, by omega, by omega, fun H9 s9 => ⟨fun _ => ?_, fun m hm => ?_⟩⟩
        · refine ⟨_, _, rfl, ?_⟩
          refine ⟨_, rfl, rfl, _, rfl, ite2 (fun _ => ?_) (fun z => absurd (by rfl) z)⟩
          refine ⟨_, rfl, _, rfl, ra, ga, rs, gs, rfl, (hra7.tbl x8).same s9, (hga7.tbl x8).same s9, by omega, by omega, ro900, fun HA sA => ⟨fun j' r' ej' hj' hjn' => ?_, fun hno => ?_⟩⟩
          · obtain rfl : j = j' := by
              rcases Nat.lt_trichotomy j j' with z | z | z
              · rw [hjn' j r z ej] at hj; cases hj
              · exact z
              · rw [hjn j' r' z ej'] at hj'; cases hj'
            refine ⟨_, rfl, _, rfl, (by show 2 ≤ sizeLine; decide), fun T2 nT2 => ?_⟩
            have sT2 := same_upd (o := .tup [.str "blind", .int (j : Int)]) nT2
            have eT' := sT2 _ _ (sA _ _ (s9 _ _ eT))
            refine ⟨.tuple [.str "blind", .int (j : Int)], .tuple [.str "blind", .int (j : Int)], .tup (.inl (.inl eT')) (.cons (.str _) (.cons (.int _) .nil)), .tup (.inl (.inl upd_same)) (.cons (.str _) (.cons (.int _) .nil)), shaped_bl _, shaped_bl _, ?_⟩
            rw [SeqAt.eqv_refl _ (SeqAt.canLay_of_shaped (shaped_bl _))]
            refine ⟨_, rfl, ite2 (fun z => nomatch z) (fun _ => ?_)⟩
            refine ⟨_, rfl, T, _, 1, _, rfl, rfl, .inl (.inl eT'), atI_nat (j := 1) rfl, _, _, .type "int", .type "bool", false, rfl, .ty _, .base (.int _), kit_ty (by decide +kernel), _, rfl, iteF ?_⟩
            exact cont t6 _ _ _ _ rfl (((hS8.same s9).same sA).same sT2) ((x8.1.ext s9).ext (sA.trans sT2))
          · rw [hno r (List.mem_of_getElem? ej)] at hj
            cases hj
        · rw [cnts_blind (List.mem_of_getElem? ej) hj] at hm
          cases hm
      · intro hno H8 T N A2 ns8 x8 eT eN hsamp
        have hS8 := hS7.tbl x8
        obtain ⟨m1, m2⟩ := cnts_samp hro hsamp
        refine ⟨_, rfl, _, rfl, ra, ga, rs, gs, rfl, hra7.tbl x8, hga7.tbl x8, by omega, by omega, fun H9 s9 => ⟨fun e => ?_, fun m hm hmin => ?_⟩⟩
        · rw [e] at m1; cases m1
        · obtain rfl : m = ns8.length := Nat.le_antisymm (hmin _ m1) (m2 _ hm)
          refine ⟨_, _, rfl, ?_⟩
          refine ⟨_, rfl, rfl, _, rfl, ite2 (fun z => nomatch z) (fun _ => ?_)⟩
          have eT9 := s9 _ _ eT
          have eN9 := s9 _ _ eN
          refine ⟨_, rfl, T, _, 0, _, rfl, rfl, .inl (.inl eT9), atI_nat (j := 0) rfl, rfl, _, rfl, ite2 (fun z => ?_) (fun _ => ?_)⟩
          · have z : (!decide (V.str "samples" = V.str "samples")) = true := z
            rw [decide_eq_true rfl] at z
            cases z
          · refine ⟨_, rfl, T, _, 1, _, rfl, rfl, .inl (.inl eT9), atI_nat (j := 1) rfl, N, _, rfl, .inl (SqL.of eN9), _, rfl, rfl, _, rfl, ite2 (fun z => ?_) (fun _ => ?_)⟩
            · have z : (!decide (V.int ((ns8.map V.int).length : Int) = V.int (ns8.length : Int))) = true := z
              rw [List.length_map, decide_eq_true rfl] at z
              cases z
            · exact cont t6 _ _ _ _ rfl (hS8.same s9) (x8.1.ext s9)
    · obtain ⟨t, y2, y3, y4, y5, y6, y7, rfl, u0, u1, hS, hTx⟩ := hP
      exact q Hx
end

/-! ### the end: what the top has left, the tables of code objects among it -/
/-- each def of the text has a code object with an empty table -/
def Tabs (q : Program) (mg : Str → Option Value) (h : Heap) : Prop := ∀ dr ∈ recsOf q, ∃ (f : Addr) (o : Obj) (fd : FuncData) (c P : Addr), mg dr.name = some (.ref f) ∧ h.get? f = some o ∧ o.data = .func fd ∧ fd.code = .ref c ∧ PySem.W.CodeHd h c P ∧ h.get? P = some (PySem.W.tabObj #[])
theorem tab_in {q : Program} {mg : Str → Option Value} {h : Heap} {K : PySem.W.Frag} {y : Str} {f c P : Addr} {oc e : Value} {od dd : Option Addr} {fd : FuncData} {osl sl : Array (Option Value)} {vs : Array Value} (TT : Tabs q mg h) (X : K.In h) (rec : ((recsOf q).any fun r => r.name == y) = true)
    (g : mg y = some (.ref f)) (lf : K.lookup f = some ⟨oc, od, .func fd, osl⟩) (hc : fd.code = .ref c) (lc : K.lookup c = some ⟨e, dd, .fields vs, sl⟩) (v : vs[11]? = some (.ref P)) : PySem.W.CodeHd h c P ∧ h.get? P = some (PySem.W.tabObj #[]) := by
  obtain ⟨dr, mem, nm⟩ := List.any_eq_true.mp rec
  obtain ⟨f', o', fd', c', P', t1, t2, t3, t4, t5, t6⟩ := TT dr mem
  have ef : f' = f := by
    rw [beq_iff_eq.mp nm, g] at t1
    exact (Value.ref.inj (Option.some.inj t1)).symm
  rw [ef, X _ _ lf] at t2
  rw [← Option.some.inj t2] at t3
  have efd : fd = fd' := Data.func.inj t3
  rw [← efd, hc] at t4
  have ec : c = c' := Value.ref.inj t4
  rw [← ec] at t5
  have t5' := t5
  obtain ⟨oc', us, _, _, _, _, _, _, _, u1, _, u3, u4, _⟩ := t5'
  rw [X _ _ lc] at u1
  rw [← Option.some.inj u1] at u3
  have eu : vs = us := Data.fields.inj u3
  rw [← eu, v] at u4
  have eP : P = P' := Value.ref.inj (Option.some.inj u4)
  rw [eP]
  exact ⟨t5, t6⟩
theorem law_end {l : PySem.W.OpenLaw} {k : Nat} {q : Program} {loose : List Str} {XP : (Str → Option Value) → Heap → Prop} {YP : World → Heap → Prop} {d : DefRec} {K : Params → PySem.W.Frag} (most : l.most = some 63) (plain : d.params.defaults = []) (room : Room k callerA)
    (part : ∀ w h, YP w h → (K w.params).In h) (made : ∀ (w : World) (mg : Str → Option Value) (f : Addr) (h : Heap), (K w.params).In h → h.Ns mainGlobals mg → mg d.name = some (.ref f) → Tabs q mg h → LamX.LawAtS l w (K w.params) CX0 k 63 "_law_script" mg f h) : PySem.W.WalkO q loose XP YP l.row.toRowW d [] (fun f vs => PySem.call f vs) := by
  refine Att.attach_callB most plain ?_
  intro w _ s₁ mg _ f _ _ _ _ a vs ns ground said _ _ _ name script nums len size still
  have X := part w _ said
  have tabs : Tabs q mg s₁.heap := fun dr mem => by
    obtain ⟨f', o', fd', c', P', t1, t2, t3, t4, t5, t6⟩ := ground.T.tab dr mem
    exact ⟨f', o', fd', c', P', t1, t2, t3, t4, PySem.W.CodeHd.of t5 t6, t6.2⟩
  obtain ⟨fd, cs, sp, e1, e2, e3, e4, e5, e6⟩ := made w mg f _ X ground.T.g name tabs
  exact LamX.law_callTs X ground.T.g ground.T.b ground.T.builtins ground.T.nolimit still e1 e2 e3 ground.T.bmain script nums (Nat.le_trans len (by decide)) room e6 e4 (fun H z1 z2 => e5 H a ns len size z1 z2) fun _ _ _ z => z

theorem all_mk {l : PySem.W.OpenLaw} {q : Program} {w : World} {K : PySem.W.Frag} {h : Heap} {mg : Str → Option Value} {fa f0 f1 f2 f3 f4 f5 f6 f7 f8 f9 f10 f11 : Addr} {c4 P4 : Addr} (X : K.In h) (G : h.Ns mainGlobals mg) (hfa : mg "law" = some (.ref fa)) (TT : Tabs q mg h)
    {od0 an0 od1 an1 od2 an2 od3 an3 od4 an4 od5 an5 od6 an6 od7 an7 od8 an8 od9 an9 od10 an10 od11 an11 : Option Addr} {sl0 sl1 sl2 sl3 sl4 sl5 sl6 sl7 sl8 sl9 sl10 sl11 : Array (Option Value)} {oc0 kV0 dc0 pm0 ct0 cd0 oc1 kV1 dc1 pm1 ct1 cd1 oc2 kV2 dc2 pm2 ct2 cd2 oc3 kV3 dc3 pm3 ct3 cd3 oc4 kV4 dc4 pm4 ct4 oc5 kV5 dc5 pm5 ct5 cd5 oc6 kV6 dc6 pm6 ct6 cd6 oc7 kV7 dc7 pm7 ct7 cd7 oc8 kV8 dc8 pm8 ct8 cd8 oc9 kV9 dc9 pm9 ct9 cd9 oc10 kV10 dc10 pm10 ct10 cd10 oc11 kV11 dc11 pm11 ct11 cd11 : Value}
    {e4 : Value} {dd4 : Option Addr} {vs4 : Array Value} {sc4 : Array (Option Value)}
    (a0 : PySem.W.nsIn K mainGlobals "set_of" = some (some (.ref f0))) (l0 : K.lookup f0 = some ⟨oc0, od0, .func (PySem.W.fnOf "set_of" "set_of" (defArgs sSetOf) (defBody sSetOf) (defScope sSetOf) .none kV0 dc0 pm0 an0 cd0 ct0), sl0⟩) (c0' : PySem.W.codeIn K cd0 "set_of" = true) (k0 : PySem.W.keepIn K (.ref f0) = true)
    (a1 : PySem.W.nsIn K mainGlobals "both_of" = some (some (.ref f1))) (l1 : K.lookup f1 = some ⟨oc1, od1, .func (PySem.W.fnOf "both_of" "both_of" (defArgs sBoth) (defBody sBoth) (defScope sBoth) .none kV1 dc1 pm1 an1 cd1 ct1), sl1⟩) (c1' : PySem.W.codeIn K cd1 "both_of" = true) (k1 : PySem.W.keepIn K (.ref f1) = true)
    (a2 : PySem.W.nsIn K mainGlobals "gaps_of" = some (some (.ref f2))) (l2 : K.lookup f2 = some ⟨oc2, od2, .func (PySem.W.fnOf "gaps_of" "gaps_of" (defArgs sGaps) (defBody sGaps) (defScope sGaps) .none kV2 dc2 pm2 an2 cd2 ct2), sl2⟩) (c2' : PySem.W.codeIn K cd2 "gaps_of" = true) (k2 : PySem.W.keepIn K (.ref f2) = true)
    (a3 : PySem.W.nsIn K mainGlobals "without" = some (some (.ref f3))) (l3 : K.lookup f3 = some ⟨oc3, od3, .func (PySem.W.fnOf "without" "without" (defArgs sWithout) (defBody sWithout) (defScope sWithout) .none kV3 dc3 pm3 an3 cd3 ct3), sl3⟩) (c3' : PySem.W.codeIn K cd3 "without" = true) (k3 : PySem.W.keepIn K (.ref f3) = true)
    (a4 : PySem.W.nsIn K mainGlobals "least_samples" = some (some (.ref f4))) (l4 : K.lookup f4 = some ⟨oc4, od4, .func (PySem.W.fnOf "least_samples" "least_samples" (defArgs sLeast) (defBody sLeast) (defScope sLeast) .none kV4 dc4 pm4 an4 (.ref c4) ct4), sl4⟩) (c4' : PySem.W.codeIn K (.ref c4) "least_samples" = true) (k4 : PySem.W.keepIn K (.ref f4) = true)
    (a5 : PySem.W.nsIn K mainGlobals "_law_begin" = some (some (.ref f5))) (l5 : K.lookup f5 = some ⟨oc5, od5, .func (PySem.W.fnOf "_law_begin" "_law_begin" (defArgs sBegin) (defBody sBegin) (defScope sBegin) .none kV5 dc5 pm5 an5 cd5 ct5), sl5⟩) (c5' : PySem.W.codeIn K cd5 "_law_begin" = true) (k5 : PySem.W.keepIn K (.ref f5) = true)
    (a6 : PySem.W.nsIn K mainGlobals "_law_take" = some (some (.ref f6))) (l6 : K.lookup f6 = some ⟨oc6, od6, .func (PySem.W.fnOf "_law_take" "_law_take" (defArgs sTake) (defBody sTake) (defScope sTake) .none kV6 dc6 pm6 an6 cd6 ct6), sl6⟩) (c6' : PySem.W.codeIn K cd6 "_law_take" = true) (k6 : PySem.W.keepIn K (.ref f6) = true)
    (a7 : PySem.W.nsIn K mainGlobals "_law_gone" = some (some (.ref f7))) (l7 : K.lookup f7 = some ⟨oc7, od7, .func (PySem.W.fnOf "_law_gone" "_law_gone" (defArgs sGone) (defBody sGone) (defScope sGone) .none kV7 dc7 pm7 an7 cd7 ct7), sl7⟩) (c7' : PySem.W.codeIn K cd7 "_law_gone" = true) (k7 : PySem.W.keepIn K (.ref f7) = true)
    (a8 : PySem.W.nsIn K mainGlobals "_law_runs" = some (some (.ref f8))) (l8 : K.lookup f8 = some ⟨oc8, od8, .func (PySem.W.fnOf "_law_runs" "_law_runs" (defArgs sRuns) (defBody sRuns) (defScope sRuns) .none kV8 dc8 pm8 an8 cd8 ct8), sl8⟩) (c8' : PySem.W.codeIn K cd8 "_law_runs" = true) (k8 : PySem.W.keepIn K (.ref f8) = true)
    (a9 : PySem.W.nsIn K mainGlobals "_law_fewest" = some (some (.ref f9))) (l9 : K.lookup f9 = some ⟨oc9, od9, .func (PySem.W.fnOf "_law_fewest" "_law_fewest" (defArgs sFew) (defBody sFew) (defScope sFew) .none kV9 dc9 pm9 an9 cd9 ct9), sl9⟩) (c9' : PySem.W.codeIn K cd9 "_law_fewest" = true) (k9 : PySem.W.keepIn K (.ref f9) = true)
    (a10 : PySem.W.nsIn K mainGlobals "_law_first_blind" = some (some (.ref f10))) (l10 : K.lookup f10 = some ⟨oc10, od10, .func (PySem.W.fnOf "_law_first_blind" "_law_first_blind" (defArgs sBlind) (defBody sBlind) (defScope sBlind) .none kV10 dc10 pm10 an10 cd10 ct10), sl10⟩) (c10' : PySem.W.codeIn K cd10 "_law_first_blind" = true) (k10 : PySem.W.keepIn K (.ref f10) = true)
    (a11 : PySem.W.nsIn K mainGlobals "law" = some (some (.ref f11))) (l11 : K.lookup f11 = some ⟨oc11, od11, .func (PySem.W.fnOf "law" "law" (defArgs sLaw) (defBody sLaw) (defScope sLaw) .none kV11 dc11 pm11 an11 cd11 ct11), sl11⟩) (c11' : PySem.W.codeIn K cd11 "law" = true) (k11 : PySem.W.keepIn K (.ref f11) = true)
    (lc4 : K.lookup c4 = some ⟨e4, dd4, .fields vs4, sc4⟩) (v4 : vs4[11]? = some (.ref P4)) (nP4 : K.lookup P4 = none) (r4 : ((recsOf q).any fun e => e.name == ("least_samples" : Str)) = true)
    (z_all : PySem.W.nsIn K mainGlobals "all" = some none) (z_any : PySem.W.nsIn K mainGlobals "any" = some none) (z_bool : PySem.W.nsIn K mainGlobals "bool" = some none) (z_divmod : PySem.W.nsIn K mainGlobals "divmod" = some none) (z_enumerate : PySem.W.nsIn K mainGlobals "enumerate" = some none) (z_isinstance : PySem.W.nsIn K mainGlobals "isinstance" = some none) (z_len : PySem.W.nsIn K mainGlobals "len" = some none) (z_list : PySem.W.nsIn K mainGlobals "list" = some none) (z_max : PySem.W.nsIn K mainGlobals "max" = some none) (z_min : PySem.W.nsIn K mainGlobals "min" = some none) (z_range : PySem.W.nsIn K mainGlobals "range" = some none) (z_sorted : PySem.W.nsIn K mainGlobals "sorted" = some none) :
    LamX.LawAtS l w K CX0 5 63 "_law_script" mg fa h := by
  cases hfa.symm.trans (PySem.W.mg_of X G a11)
  have F0 := fun_mk (st := sSetOf) l0 c0' k0
  have b0 := F0.binds (ps := ["pairs"]) fun _ _ _ _ _ _ us hl => match us, hl with | [_], _ => rfl
  have F1 := fun_mk (st := sBoth) l1 c1' k1
  have b1 := F1.binds (ps := ["one", "other"]) fun _ _ _ _ _ _ us hl => match us, hl with | [_, _], _ => rfl
  have F2 := fun_mk (st := sGaps) l2 c2' k2
  have b2 := F2.binds (ps := ["some", "begin", "end"]) fun _ _ _ _ _ _ us hl => match us, hl with | [_, _, _], _ => rfl
  have F3 := fun_mk (st := sWithout) l3 c3' k3
  have b3 := F3.binds (ps := ["one", "other"]) fun _ _ _ _ _ _ us hl => match us, hl with | [_, _], _ => rfl
  have F4 := fun_mk (st := sLeast) l4 c4' k4
  have b4 := F4.binds (ps := ["runs", "gone"]) fun _ _ _ _ _ _ us hl => match us, hl with | [_, _], _ => rfl
  have F5 := fun_mk (st := sBegin) l5 c5' k5
  have b5 := F5.binds (ps := ["_law_script"]) fun _ _ _ _ _ _ us hl => match us, hl with | [_], _ => rfl
  have F6 := fun_mk (st := sTake) l6 c6' k6
  have b6 := F6.binds (ps := ["_law_state", "_law_many"]) fun _ _ _ _ _ _ us hl => match us, hl with | [_, _], _ => rfl
  have F7 := fun_mk (st := sGone) l7 c7' k7
  have b7 := F7.binds (ps := ["_law_state", "_law_most", "_law_rare"]) fun _ _ _ _ _ _ us hl => match us, hl with | [_, _, _], _ => rfl
  have F8 := fun_mk (st := sRuns) l8 c8' k8
  have b8 := F8.binds (ps := ["_law_state", "_law_many", "_law_most", "_law_wide"]) fun _ _ _ _ _ _ us hl => match us, hl with | [_, _, _, _], _ => rfl
  have F9 := fun_mk (st := sFew) l9 c9' k9
  have b9 := F9.binds (ps := ["_law_runs_here", "_law_gone_here"]) fun _ _ _ _ _ _ us hl => match us, hl with | [_, _], _ => rfl
  have F10 := fun_mk (st := sBlind) l10 c10' k10
  have b10 := F10.binds (ps := ["_law_runs_here", "_law_gone_here"]) fun _ _ _ _ _ _ us hl => match us, hl with | [_, _], _ => rfl
  have F11 := fun_mk (st := sLaw) l11 c11' k11
  have m_all := PySem.W.mg_none_of X G z_all
  have m_any := PySem.W.mg_none_of X G z_any
  have m_bool := PySem.W.mg_none_of X G z_bool
  have m_divmod := PySem.W.mg_none_of X G z_divmod
  have m_enumerate := PySem.W.mg_none_of X G z_enumerate
  have m_isinstance := PySem.W.mg_none_of X G z_isinstance
  have m_len := PySem.W.mg_none_of X G z_len
  have m_list := PySem.W.mg_none_of X G z_list
  have m_max := PySem.W.mg_none_of X G z_max
  have m_min := PySem.W.mg_none_of X G z_min
  have m_range := PySem.W.mg_none_of X G z_range
  have m_sorted := PySem.W.mg_none_of X G z_sorted
  have tb4 := tab_in TT X r4 (PySem.W.mg_of X G a4) l4 rfl lc4 v4
  refine ⟨PySem.W.fnOf "law" "law" (defArgs sLaw) (defBody sLaw) (defScope sLaw) .none kV11 dc11 pm11 an11 cd11 ct11, [(c4, P4)], spLaw K P4, List.forall_mem_cons.mpr ⟨tb4.2, fun _ z => nomatch z⟩, List.forall_mem_cons.mpr ⟨nP4, fun _ z => nomatch z⟩, List.forall_mem_cons.mpr ⟨tb4.1, fun _ z => nomatch z⟩, fun s v => .of_eq rfl, fun H a ns hl _ hH hS => ?_, fun base _ _ TB => ?_⟩
  · have hT4 : GxR.TabG H P4 := ⟨#[], hH (c4, P4) (List.mem_cons_self ..), trivial⟩; exact ⟨a, ns, rfl, hS, hl, LamX.TabS.nil (hH (c4, P4) (List.mem_cons_self ..)), fun _ => rfl⟩
  · have g := fun {x : Str} {f : Addr} (a : PySem.W.nsIn K mainGlobals x = some (some (.ref f))) => PySem.W.mg_of X G a
    have T4 : GxR.TabB base mg c4 P4 := let t := TB (c4, P4) (List.mem_cons_self ..); ⟨t.code, t.bm, t.gP⟩
    have CT : Cal l.prog w K mg base 1 "_law_take" ["_law_state", "_law_many"] spTake := ⟨_, _, ok_take F6 m_len m_divmod, g a6, k6, b6⟩
    have CB : Cal l.prog w K mg base 1 "_law_begin" ["_law_script"] (spBegin K) := ⟨_, _, ok_begin F5 m_list, g a5, k5, b5⟩
    have SO : Cal l.prog w K mg base 1 "set_of" ["pairs"] (spSetOf K) := ⟨_, _, ok_setof F0 m_sorted m_max, g a0, k0, b0⟩
    have BO : Cal l.prog w K mg base 1 "both_of" ["one", "other"] (spBoth K) := ⟨_, _, ok_both F1 m_len m_max m_min, g a1, k1, b1⟩
    have GA : Cal l.prog w K mg base 2 "gaps_of" ["some", "begin", "end"] (spGaps K) := ⟨_, _, ok_gaps F2 SO m_max m_min, g a2, k2, b2⟩
    have WO : Cal l.prog w K mg base 3 "without" ["one", "other"] (spWithout K) := ⟨_, _, ok_without F3 BO GA, g a3, k3, b3⟩
    have LE : Cal l.prog w K mg base 4 "least_samples" ["runs", "gone"] (spLeast K P4) := ⟨_, _, ok_Least l4 c4' ⟨T4.code, T4.bm, T4.gP⟩ WO m_sorted m_range m_len, g a4, k4, b4⟩
    have GO : Cal l.prog w K mg base 2 "_law_gone" ["_law_state", "_law_most", "_law_rare"] spGone := ⟨_, _, ok_Gone F7 CT m_range, g a7, k7, b7⟩
    have RU : Cal l.prog w K mg base 2 "_law_runs" ["_law_state", "_law_many", "_law_most", "_law_wide"] spRuns := ⟨_, _, ok_Runs F8 CT m_range m_min m_len, g a8, k8, b8⟩
    have FE : Cal l.prog w K mg base 1 "_law_fewest" ["_law_runs_here", "_law_gone_here"] (spFew K) := ⟨_, _, ok_Few F9 m_range m_any m_all m_len m_min, g a9, k9, b9⟩
    have BL : Cal l.prog w K mg base 1 "_law_first_blind" ["_law_runs_here", "_law_gone_here"] (spBlind K) := ⟨_, _, ok_Blind F10 m_enumerate m_range m_any m_all, g a10, k10, b10⟩
    exact ok_Law F11 CB RU CT GO LE FE BL m_range m_list m_isinstance m_bool m_len
end TK
open PySem PySem.W PyProof.Rows
set_option maxHeartbeats 0 in
theorem PySem.Challenge.cw_tinrecall_k40_fewest_samples_by_trying_holds : PySem.Challenge.rw_tinrecall_k40_fewest_samples_by_trying.Holds := by
  w_on; o_law; k_head; (case hw => w_witness2)
  k_fill
  refine TK.law_end (l := PySem.Challenge.rw_tinrecall_k40_fewest_samples_by_trying) (k := 5) rfl rfl ⟨rfl, by decide, by decide⟩ (fun w h Y => PySem.W.km_in_of Y) ?made
  case made =>
    intro w mg f h KX G hmg TT
    refine' TK.all_mk KX G hmg TT ?a0 ?l0 ?c0 ?k0 ?a1 ?l1 ?c1 ?k1 ?a2 ?l2 ?c2 ?k2 ?a3 ?l3 ?c3 ?k3 ?a4 ?l4 ?c4 ?k4 ?a5 ?l5 ?c5 ?k5 ?a6 ?l6 ?c6 ?k6 ?a7 ?l7 ?c7 ?k7 ?a8 ?l8 ?c8 ?k8 ?a9 ?l9 ?c9 ?k9 ?a10 ?l10 ?c10 ?k10 ?a11 ?l11 ?c11 ?k11 ?lc4 ?v4 ?nP4 ?r4 ?z_all ?z_any ?z_bool ?z_divmod ?z_enumerate ?z_isinstance ?z_len ?z_list ?z_max ?z_min ?z_range ?z_sorted
    (case a0 => k_is); (case l0 => k_is); (case c0 => k_is); (case k0 => k_is)
    (case a1 => k_is); (case l1 => k_is); (case c1 => k_is); (case k1 => k_is)
    (case a2 => k_is); (case l2 => k_is); (case c2 => k_is); (case k2 => k_is)
    (case a3 => k_is); (case l3 => k_is); (case c3 => k_is); (case k3 => k_is)
    (case a4 => k_is); (case l4 => k_is); (case c4 => k_is); (case k4 => k_is)
    (case a5 => k_is); (case l5 => k_is); (case c5 => k_is); (case k5 => k_is)
    (case a6 => k_is); (case l6 => k_is); (case c6 => k_is); (case k6 => k_is)
    (case a7 => k_is); (case l7 => k_is); (case c7 => k_is); (case k7 => k_is)
    (case a8 => k_is); (case l8 => k_is); (case c8 => k_is); (case k8 => k_is)
    (case a9 => k_is); (case l9 => k_is); (case c9 => k_is); (case k9 => k_is)
    (case a10 => k_is); (case l10 => k_is); (case c10 => k_is); (case k10 => k_is)
    (case a11 => k_is); (case l11 => k_is); (case c11 => k_is); (case k11 => k_is)
    (case lc4 => k_is); (case v4 => exact rfl); (case nP4 => exact rfl); (case r4 => decide +kernel)
    (case z_all => k_is); (case z_any => k_is); (case z_bool => k_is); (case z_divmod => k_is); (case z_enumerate => k_is); (case z_isinstance => k_is); (case z_len => k_is); (case z_list => k_is); (case z_max => k_is); (case z_min => k_is); (case z_range => k_is); (case z_sorted => k_is)

