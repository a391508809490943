import PyProof.Rows.All
import Wide.All
import OpenK.AllK
import Wide.FinOn
import HandS.ForMost
import HandS.WideBits
import HandS.IsInst
import HandS.Style
import HandS.AnyAll
import HandS.Nested
import HandS.Walk
import HandS.Evl
import HandS.EndTab
import HandS.SortInts
import HandS.SortRule
import HandS.Conv
import HandS.Star
import HandS.Codes
import HandS.Wide
import HandS.Zip
import HandS.DictComp
import HandS.SetFor
import HandS.SetKeys
import HandS.StrMore
import HandS.Replace
import PyProof.ReprRoads
import PyProof.ReprLen
import HandS.Small
import HandS.More
import KE.KDictPairs
import KE.GoesMore
import KE.GoesEnum
import PyProof.SumAny
import PyProof.WalksPairs
import PyProof.GenCompT
import HandS.Lambda
import KE.SortKeyHeap
import HandS.Sort
import HandS.Conv
import HandS.ExcValue
import HandS.ExcOwn
import KE.SortData
import KE.DataMinMax
import KE.GoesEnumKw
import HandS.SortKw
import HandS.Deep
import HandS.GenList
import HandS.TupAny
import PySem.Challenge.RW_tinrecall_k41_samples_put_otherwise
set_option Elab.async false
set_option linter.all false
set_option maxRecDepth 100000
set_option maxHeartbeats 5000000
/-! ## sum(.. for a, b in ..): a generator expression over a list or a tuple of pairs of whole numbers -/
namespace GP
open PySem PySem.Spec PyProof.Rows L2 GxR

/-- a walk whose items are tuples that stand still -/
theorem asTuples {prog : Program} {w : World} {A : Around} {it : Addr} {foot : List Addr} {n : Nat} {Item : Nat → Value → Prop} {At : Nat → Heap → Prop} (W : Walks prog w A it foot [it] n Item At) (loc : Nat → Addr) (held : Nat → Array Value)
    (isT : ∀ j v, j < n → Item j v → v = .ref (loc j)) (apt : ∀ j, j < n → loc j ≠ it)
    (letGo : ∀ (es : List Expr) (k : Nat) (pos : Pos) (j : Nat) (T : Addr) (s : Shared) (Q : Unit → Shared → Prop) (E : Value → Shared → Prop), At j s.heap → Q () s → wpAny (model prog w) A (letOwnedTupleGo (.Tuple es k pos) (.ref it) (.ref T)) Q E s) :
    WalksU prog w A it (foot ++ (List.range n).map loc) [it] n (fun j xs => xs = held j) (fun j h => At j h ∧ ∀ m, m < n → h.IsTuple (loc m) (held m))
      (fun j T h => (j < n ∧ T = loc j) ∧ At (j + 1) h ∧ ∀ m, m < n → h.IsTuple (loc m) (held m)) := by
  have inFoot : ∀ m, m < n → loc m ∈ foot ++ (List.range n).map loc := fun m hm => List.mem_append.mpr (.inr (List.mem_map.mpr ⟨m, List.mem_range.mpr hm, rfl⟩))
  constructor
  case sub => exact fun b hb => List.mem_append.mpr (.inl (W.sub b hb))
  case frame =>
    intro j h h' ⟨a1, a2⟩ kept
    refine ⟨W.frame j h h' a1 fun b hb => kept b (List.mem_append.mpr (.inl hb)), fun m hm => ?_⟩
    obtain ⟨o, e, r⟩ := a2 m hm
    exact ⟨o, kept _ (inFoot m hm) o e, r⟩
  case item =>
    intro j s Q E hj ⟨a1, a2⟩ fin
    refine W.item j s Q E hj a1 fun v h' tk hv a1' kept => ?_
    have still : ∀ m, m < n → h'.IsTuple (loc m) (held m) := fun m hm => by
      obtain ⟨o, e, r⟩ := a2 m hm
      exact ⟨o, kept _ o (fun z => apt m hm (List.mem_singleton.mp z)) e, r⟩
    rw [isT j v hj hv]
    exact fin (loc j) (held j) h' tk rfl (still j hj) ⟨⟨hj, rfl⟩, a1', still⟩ kept
  case go =>
    intro es k pos j T s Q E hm fin
    exact letGo es k pos (j + 1) T s Q E hm.2.1 (fin s.heap hm.2 fun _ _ _ e => e)
  case apart =>
    intro j T h hm z
    rw [hm.1.2] at z
    exact apt j hm.1.1 (List.mem_singleton.mp z)
  case done => exact fun s Q E a fin => W.done s Q E a.1 fin
  case self => exact fun j s Q E a fin => W.self j s Q E a.1 fin

/-- the values vs are tuples that hold the pairs ps -/
def Prs (H : Hp) (vs : List V) (ps : List (Int × Int)) : Prop := vs.length = ps.length ∧ ∀ (i : Nat) p, ps[i]? = some p → ∃ a, vs[i]? = some (.ref a) ∧ H a = some (.tup [.int p.1, .int p.2])

/-- what is asked of the expression's own scope: the two names are its locals, its captured names are the def's -/
def OwnScope (env : Env) (sc : Scope) (xa xb : Str) : Prop :=
  (sc.kind = .function ∧ sc.isCoroutine = false ∧ xa ≠ xb) ∧ (sc.names.lookup (".0" : Str) = some .local ∧ sc.names.lookup xa = some .local ∧ sc.names.lookup xb = some .local) ∧
  (∀ y ∈ sc.names, y.2 ≠ NameKind.cell) ∧ ∀ y ∈ sc.names, y.2 = NameKind.free → ∃ c, env.cells.lookup y.1 = some c

section
variable {X : Cx} {s : Shared} {H : Hp} {σ : L2.St} {pins : List (Addr × Obj)}
/-- a tracked pair in the machine's heap -/
theorem pair_in {T : Addr} {p : Int × Int} (I : Inv X pins σ H s) (e : H T = some (.tup [.int p.1, .int p.2])) : ∃ ta tb, s.heap.IsTuple T #[.int p.1 ta, .int p.2 tb] := by
  obtain ⟨_, its, r, t⟩ := I.hok T _ e
  cases r with
  | cons q1 r =>
    cases r with
    | cons q2 r =>
      cases r
      obtain ⟨ta, rfl⟩ := q1
      obtain ⟨tb, rfl⟩ := q2
      exact ⟨ta, tb, t⟩
/-- the pairs by place: where they stand and what they hold -/
theorem pairs_in {vs : List V} {ps : List (Int × Int)} {its : List Value} (I : Inv X pins σ H s) (hp : Prs H vs ps) (r : Vals vs its) :
    ∃ (loc : Nat → Addr) (held : Nat → Array Value), ∀ j, j < ps.length → its[j]? = some (.ref (loc j)) ∧ s.heap.IsTuple (loc j) (held j) ∧ ∃ p ta tb, ps[j]? = some p ∧ held j = #[.int p.1 ta, .int p.2 tb] := by
  have one : ∀ j, ∃ (T : Addr) (xs : Array Value), j < ps.length → its[j]? = some (.ref T) ∧ s.heap.IsTuple T xs ∧ ∃ p ta tb, ps[j]? = some p ∧ xs = #[.int p.1 ta, .int p.2 tb] := fun j => by
    by_cases hj : j < ps.length
    · obtain ⟨T, e1, e2⟩ := hp.2 j ps[j] (List.getElem?_eq_getElem hj)
      obtain ⟨u, eu, ru⟩ := r.get e1
      cases ru
      obtain ⟨ta, tb, t⟩ := pair_in I e2
      exact ⟨T, _, fun _ => ⟨eu, t, ps[j], ta, tb, List.getElem?_eq_getElem hj, rfl⟩⟩
    · exact ⟨0, #[], fun z => absurd z hj⟩
  exact ⟨fun j => (one j).choose, fun j => (one j).choose_spec.choose, fun j hj => (one j).choose_spec.choose_spec hj⟩

/-- what a walk over the pairs is, begun at the new iterator that o is -/
def Begun (X : Cx) (s : Shared) (P : Addr) (ps : List (Int × Int)) (o : Obj) : Prop :=
  ∃ (foot : List Addr) (Hold : Nat → Array Value → Prop) (At : Nat → Heap → Prop) (Mid : Nat → Addr → Heap → Prop),
    (∀ A' : Around, A'.handled = none → WalksU X.prog X.w A' s.heap.objs.size foot [s.heap.objs.size] ps.length (fun j xs => j < ps.length ∧ Hold j xs) At Mid) ∧
    (∀ j xs, j < ps.length → Hold j xs → ∃ p ta tb, ps[j]? = some p ∧ xs = #[.int p.1 ta, .int p.2 tb]) ∧ At 0 (s.heap.push o) ∧ ∀ b ∈ foot, b < s.heap.objs.size + 1 ∧ b ≠ P
theorem begin_pairs {a P : Addr} {vs : List V} {ps : List (Int × Int)} {tb : Array Value} {Q' : Value → Shared → Prop} (I : Inv X pins σ H s) (hS : SqL X.K H a vs ∨ SqT X.K H a vs) (hp : Prs H vs ps) (hP : H P = some (.tbl tb))
    (fin : ∀ o, Begun X s P ps o → Q' (.ref s.heap.objs.size) { s with heap := s.heap.push o }) : wpAny (model X.prog X.w) X.A (pyIter (.ref a)) Q' X.xe s := by
  have hPo : s.heap.get? P = some { cls := .none, data := .fields tb } := I.hok P _ hP
  have notP : ∀ (b : Addr) (o : Obj) (xs : Array Value) (n : Nat), s.heap.get? b = some o → o.data = .seq xs n → b ≠ P := fun b o xs n e d z => by
    rw [z, hPo] at e
    rw [← Option.some.inj e] at d
    cases d
  have newP : s.heap.objs.size ≠ P := fun z => Nat.lt_irrefl _ (Nat.lt_of_lt_of_eq (Heap.lt_size hPo) z)
  -- from a walk over the items to the pairs
  have mk : ∀ (its : List Value) (o : Obj) (At : Nat → Heap → Prop), Vals vs its → a < s.heap.objs.size → a ≠ P → At 0 (s.heap.push o) →
      (∀ A' : Around, A'.handled = none → Walks X.prog X.w A' s.heap.objs.size [s.heap.objs.size, a] [s.heap.objs.size] its.toArray.size (fun i v => its.toArray[i]? = some v) At) →
      (∀ (A' : Around) (es : List Expr) (k : Nat) (pos : Pos) (j : Nat) (T : Addr) (s' : Shared) (Q : Unit → Shared → Prop) (E : Value → Shared → Prop), At j s'.heap → Q () s' → wpAny (model X.prog X.w) A' (letOwnedTupleGo (.Tuple es k pos) (.ref s.heap.objs.size) (.ref T)) Q E s') →
      Begun X s P ps o := by
    intro its o At r ha haP a0 W go
    obtain ⟨loc, held, hl⟩ := pairs_in I hp r
    have ln : its.toArray.size = ps.length := by rw [List.size_toArray, ← r.length, hp.1]
    have below : ∀ m, m < ps.length → loc m < s.heap.objs.size ∧ loc m ≠ P := fun m hm => by
      obtain ⟨_, ⟨ob, e, _, n, d⟩, _⟩ := hl m hm
      exact ⟨Heap.lt_size e, notP _ _ _ _ e d⟩
    refine ⟨_, _, _, _, fun A' hA => (asTuples (ln ▸ W A' hA) loc held (fun j v hj e => ?_) (fun j hj => Nat.ne_of_lt (below j hj).1) (fun es k pos j T s' Q E => go A' es k pos j T s' Q E)).bound, fun j xs hj e => ?_, ⟨a0, fun m hm => ?_⟩, fun b hb => ?_⟩
    · have e2 : its[j]? = some v := by simpa using e
      rw [(hl j hj).1] at e2
      exact (Option.some.inj e2).symm
    · obtain ⟨_, _, p, ta, tb', e1, e2⟩ := hl j hj
      exact ⟨p, ta, tb', e1, (show xs = held j from e).trans e2⟩
    · obtain ⟨_, ⟨ob, e, rest⟩, _⟩ := hl m hm
      exact ⟨ob, Heap.get?_push_of_some _ e, rest⟩
    · rcases List.mem_append.mp hb with z | z
      · rcases List.mem_cons.mp z with e | e
        · rw [e]; exact ⟨Nat.lt_succ_self _, newP⟩
        · rw [List.mem_singleton.mp e]; exact ⟨Nat.lt_succ_of_lt ha, haP⟩
      · obtain ⟨m, hm, e⟩ := List.mem_map.mp z
        obtain ⟨h1, h2⟩ := below m (List.mem_range.mp hm)
        rw [← e]; exact ⟨Nat.lt_succ_of_lt h1, h2⟩
  rcases hS with hS | hS
  · obtain ⟨its, r, hl, _⟩ := I.list hS
    obtain ⟨o, e, c, n, d⟩ := hl.isList
    refine wpAny_pyIter_list hl.isList (fin _ (mk its _ _ r (Heap.lt_size e) (notP _ _ _ _ e d) ⟨⟨_, Heap.get?_push_size _ rfl, rfl, rfl⟩, ⟨o, Heap.get?_push_of_some _ e, c, n, d⟩⟩ (fun A' hA => Walks.list hA _ a (Nat.ne_of_lt (Heap.lt_size e)) its.toArray) ?_))
    exact fun A' es k pos j T s' Q E at_ q => wpAny_letOwnedTupleGo_listiter at_.1 q
  · obtain ⟨its, r, ⟨o, e, c, n, d⟩, _⟩ := I.tuple hS
    refine wpAny_pyIter_tuple (items := its.toArray) ⟨o, e, c, n, d⟩ (fin _ (mk its _ _ r (Heap.lt_size e) (notP _ _ _ _ e d) ⟨⟨_, Heap.get?_push_size _ rfl, rfl, rfl⟩, ⟨o, Heap.get?_push_of_some _ e, c, n, d⟩⟩ (fun A' hA => Walks.tuple hA _ a (Nat.ne_of_lt (Heap.lt_size e)) its.toArray) ?_))
    exact fun A' es k pos j T s' Q E at_ q => letGo_tupleiter at_.1 q

/-- the expression's code object is made, or found: the table may grow, all else stands -/
theorem code_there {c P : Addr} {gpos : Pos} {qual : Str} {sc : Scope} {tb : Array Value} {Q' : Value → Shared → Prop} {E : Value → Shared → Prop} (hcode : X.env.code = .ref c) (C : PySem.W.CodeHd s.heap c P) (hP : s.heap.get? P = some { cls := .none, data := .fields tb }) (ok : TriplesOk tb.toList)
    (fin : ∀ (code : Value) (h' : Heap) (tk : Nat) (more : Array Value), Heap.ExtBut P s.heap h' → s.heap.objs.size ≤ h'.objs.size → h'.get? P = some { cls := .none, data := .fields (tb ++ more) } → TriplesOk (tb ++ more).toList → Q' code { s with heap := h', toks := tk }) :
    wpAny (model X.prog X.w) X.A (genexprCode X.env gpos qual sc) Q' E s := by
  cases found : codeAmong gpos tb.toList with
  | some old =>
    refine wpAny_genexprCode_hit hcode (C.code hP ok) found ?_
    have e : tb ++ #[] = tb := by simp
    exact fin old s.heap s.toks #[] (Heap.ExtBut.refl _ _) (Nat.le_refl _) (by rw [e]; exact hP) (by rw [e]; exact ok)
  | none =>
    refine wpAny_genexprCodeX hcode (C.code hP ok) (C.tab hP) found fun c' h' tk ext le lt isC _ tab _ => ?_
    obtain ⟨_, _, _, _, _, _, _, _, _, _, _, _, _, _, _, _, _, _, _, okT, _⟩ := isC
    exact fin _ h' tk _ ext (Nat.le_trans le (Nat.le_of_lt lt)) tab.2 okT

/-- the element at a pair of whole numbers: what it gives, wherever the expression runs later -/
def EltAt (X : Cx) (s₁ : Shared) (P : Addr) (sc : Scope) (xa xb : Str) (elt : Expr) (Gives : Int → Int → Value → Prop) : Prop :=
  ∀ (L : Addr) (code : Value) (A' : Around) (E' : Value → Shared → Prop) (a b : Int) (ta tb : Tok) (s₂ : Shared) (m : Str → Option Value), A'.handled = none →
    (∀ x o, x ≠ P → s₁.heap.get? x = some o → s₂.heap.get? x = some o) → s₂.heap.Ns L m → m xa = some (.int a ta) → m xb = some (.int b tb) →
    wpAny (model X.prog X.w) A' (eval elt (genEnv sc (cloFrom X.env.cells sc.names []) L code builtinsNs X.env)) (fun y s₃ => Gives a b y ∧ Keeps s₂ s₃) E' s₂

/-- the generator at g, in the state s₅, before its first item; H₁: what was held when it was made -/
def Fresh (X : Cx) (pins : List (Addr × Obj)) (σ : L2.St) (H₁ : Hp) (P : Addr) (ps : List (Int × Int)) (Gives : Int → Int → Value → Prop) (g : Addr) (s₅ : Shared) : Prop :=
  ∃ (foot writes : List Addr) (Gens : Array GenState → Array GenState → Prop) (Item : Nat → Value → Prop) (At : Nat → Shared → Prop),
    (WalksS X.prog X.w X.A.in1 g foot writes Gens ps.length Item At ∧ At 0 s₅ ∧ ∀ b ∈ foot, b < s₅.heap.objs.size) ∧
    (∀ j v, Item j v → ∃ p, ps[j]? = some p ∧ Gives p.1 p.2 v) ∧ ∀ s₆, Moved writes Gens s₅ s₆ → ∃ H₂, Tabbed P H₁ H₂ ∧ Inv X pins σ H₂ s₆

theorem gen_made {c P : Addr} {elt iter : Expr} {xa xb : Str} {pa pb pt gpos : Pos} {kt : Nat} {sc : Scope} {te : TE} {k : Nat} {Q' : Value → Shared → Prop} {Want : List (Int × Int) → Hp → Prop} {Gives : Int → Int → Value → Prop}
    (room : Room k X.A) (TB : TabB X.base X.mg c P) (hcode : X.env.code = .ref c) (own : OwnScope X.env sc xa xb) (walked : PE X iter te) (plain : ∀ v, genFold iter X.env v = pure v) (I : Inv X pins σ H s)
    (each : ∀ s₁ H₁, Inv X pins σ H₁ s₁ → TabG H₁ P → EltAt X s₁ P sc xa xb elt Gives)
    (h : te σ H fun v H₁ => ∃ (a : Addr) (vs : List V) (ps : List (Int × Int)), v = .ref a ∧ (SqL X.K H₁ a vs ∨ SqT X.K H₁ a vs) ∧ Prs H₁ vs ps ∧ TabG H₁ P ∧ Want ps H₁)
    (fin : ∀ ps H₁ g s₅, Want ps H₁ → Fresh X pins σ H₁ P ps Gives g s₅ → Q' (.ref g) s₅) :
    wpAny (model X.prog X.w) X.A (eval (.GeneratorExp elt [⟨.Tuple [.Name xa pa, .Name xb pb] kt pt, iter, [], 0⟩] sc gpos) X.env) Q' X.xe s := by
  obtain ⟨⟨o1, o2, o3⟩, ⟨o4, o5, o6⟩, o7, o8⟩ := own
  have deep : X.A.depth < recursionLimit := by have := room.dp; omega
  refine wpAny_GeneratorExp_walksQT room.hd o2 (closure_ok o8) o7 o4 o5 o6 o3 o1 deep (thn (walked.run pins s σ H _ I h) fun u s₁ had => ?_) plain
  obtain ⟨_, H₁, I₁, rel, a, vs, ps, rfl, hS, hp, ⟨tb, hP, ok⟩, want⟩ := had
  cases rel
  have tabAt : s₁.heap.get? P = some { cls := .none, data := .fields tb } := I₁.hok P _ hP
  refine begin_pairs I₁ hS hp hP fun o beg => ?_
  obtain ⟨foot, Hold, At, Mid, W, holds, at0, low⟩ := beg
  have statics : cStatics < s₁.heap.objs.size ∧ cStatics ≠ P := by
    obtain ⟨_, ns, _⟩ := I₁.nolimit
    refine ⟨ns.lt, fun z => ?_⟩
    obtain ⟨ob, _, _, e, d, _⟩ := ns
    rw [z, tabAt] at e
    rw [← Option.some.inj e] at d
    cases d
  have quiet : (s₁.heap.push o).NoLimit := I₁.nolimit.push o
  refine ⟨quiet, code_there hcode (TB.code.keeps fun b u e => Heap.get?_push_of_some _ (I₁.bk b u e)) (Heap.get?_push_of_some _ tabAt) ok fun code h₃ tk more ext le tab₃ ok₃ => ?_⟩
  rw [Heap.size_push] at le
  have stays : ∀ b u, b ≠ P → s₁.heap.get? b = some u → h₃.get? b = some u := fun b u hb e => ext b u hb (Heap.get?_push_of_some _ e)
  obtain ⟨bm, ob, f1, f2, f3, f4, f5, f6, f7, f8⟩ := TB.bm
  have globals : Heap.Ns h₃ X.env.globals X.mg := by
    rw [I₁.ok.glob]
    exact ((I₁.mod.glob.keeps I₁.bk).push o).extBut ext TB.gP
  refine wpAny_builtinsFor (m := X.mg) globals f1 f2 (stays bm ob f4 (I₁.bk bm ob f5)) f6 f7 f8 ?_
  have later : ∀ b u, s₁.heap.get? b = some u → b ∉ [h₃.objs.size, s₁.heap.objs.size] := fun b u e z => by
    have lt := Heap.lt_size e
    rcases List.mem_cons.mp z with z' | z'
    · exact Nat.lt_irrefl _ (Nat.lt_of_lt_of_le (z' ▸ lt) (Nat.le_of_succ_le le))
    · exact Nat.lt_irrefl _ (List.mem_singleton.mp z' ▸ lt)
  refine ⟨_, _, _, _, _, _, _, fun _ => true, fun i y => i < ps.length → ∃ p, ps[i]? = some p ∧ Gives p.1 p.2 y, rfl, W, fun i xs hx => ?_, ?_, fun b hb => Nat.lt_of_lt_of_le (low b hb).1 le, quiet.extBut ext statics.2, fun z => Nat.ne_of_lt statics.1 (List.mem_singleton.mp z), fun ref kept => ⟨?_, ?_⟩, ?_⟩
  · obtain ⟨p, ta, tb', _, e⟩ := holds i xs hx.1 hx.2
    exact ⟨_, _, e⟩
  · exact (W X.A room.hd).frame _ _ _ at0 fun b hb u e => ext b u (low b hb).2 e
  · intro A' E' i va vb s₂ m _ _ _ _ _ _
    rw [List.forIn_nil]
    exact wpAny_pure ⟨rfl, _, _, rfl, fun _ _ e => e⟩
  · intro A' E' i va vb s₂ m calm hx _ ns ea eb still
    obtain ⟨p, ta, tb', ep, e⟩ := holds i _ hx.1 hx.2
    have e1 : va = .int p.1 ta := by have z := congrArg (·[0]?) e; simpa using z
    have e2 : vb = .int p.2 tb' := by have z := congrArg (·[1]?) e; simpa using z
    subst e1 e2
    refine wpAny_mono (each s₁ H₁ I₁ ⟨tb, hP, ok⟩ _ code A' E' p.1 p.2 ta tb' s₂ m calm (fun b u hb q => ?_) ns ea eb) (fun y s₃ r => ⟨fun _ => ⟨p, ep, r.1⟩, r.2⟩) fun _ _ q => q
    have q3 := stays b u hb q
    exact still b (List.mem_range.mpr (Heap.lt_size q3)) (fun z => later b u q (List.mem_cons_of_mem _ z)) u (kept b u q3)
  · intro g h₅ tk₅ gs bare above size kept W₅ at₅
    rw [GxR.passing_true, List.length_range] at W₅
    have above' : h₃.objs.size < g := above
    have size' : h₅.objs.size = g + 1 := size
    refine fin ps H₁ g _ want ⟨_, _, _, _, _, ⟨W₅.in4_1, at₅, fun b hb => ?_⟩, fun j v it => ?_, fun s₆ mv => ?_⟩
    · show b < h₅.objs.size
      rw [size']
      rcases List.mem_cons.mp hb with eg | e
      · rw [eg]; exact Nat.lt_succ_self g
      · refine Nat.lt_succ_of_le (Nat.le_trans ?_ (Nat.le_of_lt above'))
        rcases List.mem_cons.mp e with e' | e'
        · rw [e']; exact Nat.le_refl _
        · exact Nat.le_of_lt (List.mem_range.mp e')
    · obtain ⟨i, ei, hg⟩ := it
      have lt : j < ps.length := by
        have z := (List.getElem?_eq_some_iff.mp ei).1
        rwa [List.length_range] at z
      rw [List.getElem?_range lt] at ei
      cases ei
      exact hg lt
    · have all : ∀ b u, b ≠ P → s₁.heap.get? b = some u → s₆.heap.get? b = some u := fun b u hb e => mv.heap b u (later b u e) (kept b u (stays b u hb e))
      have tab₆ := mv.heap P _ (later P _ tabAt) (kept P _ tab₃)
      have J := inv_tab (more := more) (d' := s₆.drawn) (t' := s₆.toks) I₁ hP all tab₆ (AllBare.movedS (I₁.bare.push bare) mv)
      rw [sh_eta s₁ s₆ mv.os] at J
      exact ⟨_, ⟨⟨tb ++ more, upd_same, ok₃⟩, fun b hb => upd_ne hb⟩, J⟩

/-- the sum of g over the pairs -/
def sumP (g : Int → Int → Int) (ps : List (Int × Int)) : Int := (ps.map fun p => g p.1 p.2).sum
theorem preSum_is (g : Int → Int → Int) (ps : List (Int × Int)) (val : Nat → Int) (h : ∀ i p, ps[i]? = some p → val i = g p.1 p.2) : ∀ n, n ≤ ps.length → preSum val n = sumP g (ps.take n)
  | 0, _ => rfl
  | n + 1, hn => by
    have e : ps[n]? = some ps[n] := List.getElem?_eq_getElem hn
    show preSum val n + val n = _
    rw [preSum_is g ps val h n (by omega), h n _ e]
    unfold sumP
    rw [List.take_add_one, e, List.map_append, List.sum_append]
    show _ = _ + (g ps[n].1 ps[n].2 + 0)
    rw [Int.add_zero]
/-- what the reading of sum(..), any(..) over pairs asks: what is captured (Cap), the pairs, the table; then the answer -/
def tOver {α : Type} (K : PySem.W.Frag) (P : Addr) (Cap : L2.St → α → Prop) (ans : α → List (Int × Int) → V) (te : TE) : TE := fun σ H Q => ∃ x : α, Cap σ x ∧ te σ H fun v H₁ => ∃ (a : Addr) (vs : List V) (ps : List (Int × Int)), v = .ref a ∧ (SqL K H₁ a vs ∨ SqT K H₁ a vs) ∧ Prs H₁ vs ps ∧ TabG H₁ P ∧
  ∀ H₂, Tabbed P H₁ H₂ → Q (ans x ps) H₂
/-- how a built-in takes a generator over pairs -/
def Takes2 (X : Cx) (name : String) (Gives : Int → Int → Value → Prop) (ans : List (Int × Int) → V) : Prop :=
  ∀ (pins : List (Addr × Obj)) (σ : L2.St) (P : Addr) (ps : List (Int × Int)) (H₁ : Hp) (gen : Addr) (s₅ : Shared) (Q : VK), Fresh X pins σ H₁ P ps Gives gen s₅ → (∀ H₂, Tabbed P H₁ H₂ → Q (ans ps) H₂) →
    wpAny (model X.prog X.w) X.A (call (.builtin name) [.ref gen]) (EP X pins σ Q) X.xe s₅
theorem pe_over {α : Type} {name : String} {x : Str} {c P : Addr} {elt iter : Expr} {xa xb : Str} {pa pb pt p pos gpos : Pos} {kt : Nat} {sc : Scope} {Cap : L2.St → α → Prop} {Gives : α → Int → Int → Value → Prop} {ans : α → List (Int × Int) → V} {te : TE} {k : Nat} (takes : ∀ y, Takes2 X name (Gives y) (ans y))
    (room : Room k X.A) (glob : Gl X x) (free : X.mg x = none) (bltn : bootBuiltins x = some (.builtin name)) (TB : TabB X.base X.mg c P) (hcode : X.env.code = .ref c) (own : OwnScope X.env sc xa xb) (walked : PE X iter te)
    (each : ∀ pins σ s₁ H₁ y, Inv X pins σ H₁ s₁ → TabG H₁ P → Cap σ y → EltAt X s₁ P sc xa xb elt (Gives y)) (plain : ∀ v, genFold iter X.env v = pure v) (n1 : x ≠ "__name__" := by decide) (n2 : (x == ("__debug__" : Str)) = false := by decide)
    (one : starEach [.GeneratorExp elt [⟨.Tuple [.Name xa pa, .Name xb pb] kt pt, iter, [], 0⟩] sc gpos] X.env = [(false, eval (.GeneratorExp elt [⟨.Tuple [.Name xa pa, .Name xb pb] kt pt, iter, [], 0⟩] sc gpos) X.env)] := by rfl) :
    PE X (.Call (.Name x p) [.GeneratorExp elt [⟨.Tuple [.Name xa pa, .Name xb pb] kt pt, iter, [], 0⟩] sc gpos] [] pos) (tOver X.K P Cap ans te) := by
  constructor
  intro pins s σ H Q I h
  obtain ⟨y, cap, h⟩ := h
  refine wpAny_Call_Name_kw (ld_blt I glob free bltn (callWith_builtin1 ?_ one (by rfl)) n1 n2)
  rw [one]
  refine Calls.spliced_cons (gen_made (Want := fun ps H₁ => ∀ H₂, Tabbed P H₁ H₂ → Q (ans y ps) H₂) (Gives := Gives y) room TB hcode own walked plain I (fun s₁ H₁ J g => each pins σ s₁ H₁ y J g cap) h fun ps H₁ gen s₅ want fresh => Calls.spliced_nil ?_)
  exact takes y pins σ P ps H₁ gen s₅ Q fresh want
theorem takes_sum (g : Int → Int → Int) : Takes2 X "sum" (fun a b y => ∃ t, y = .int (g a b) t) (fun ps => .int (sumP g ps)) := by
  intro pins σ P ps H₁ gen s₅ Q fresh want
  obtain ⟨foot, writes, Gens, Item, At, ⟨W, a0, low⟩, items, behind⟩ := fresh
  let val : Nat → Int := fun i => (ps[i]?.map fun p => g p.1 p.2).getD 0
  have hv : ∀ i p, ps[i]? = some p → val i = g p.1 p.2 := fun i p e => by show (ps[i]?.map _).getD 0 = _; rw [e]; rfl
  refine call_sum_walkAnyS (W.self 0 _ _ _ a0 ⟨gen, foot, writes, Gens, ps.length, Item, At, val, rfl, W, a0, low, fun i v it => ?_, fun s₆ t mv => ?_⟩)
  · obtain ⟨p, e, t, ev⟩ := items i v it
    exact ⟨t, by rw [hv i p e]; exact ev⟩
  · obtain ⟨H₂, tabbed, J⟩ := behind s₆ mv
    refine ⟨.int (preSum val ps.length), H₂, J, ⟨t, rfl⟩, ?_⟩
    rw [preSum_is g ps val hv ps.length (Nat.le_refl _), List.take_length]
    exact want H₂ tabbed
def anyP (g : Int → Int → Bool) (ps : List (Int × Int)) : Bool := ps.any fun p => g p.1 p.2
theorem any_is {α : Type} (ps : List α) (f : α → Bool) (tr : Nat → Bool) (h : ∀ i p, ps[i]? = some p → tr i = f p) : (List.range ps.length).any tr = ps.any f := by
  rw [Bool.eq_iff_iff, List.any_eq_true (l := List.range _), List.any_eq_true]
  constructor
  · rintro ⟨i, hi, e⟩
    have lt := List.mem_range.mp hi
    exact ⟨ps[i], List.getElem_mem lt, by rw [← h i _ (List.getElem?_eq_getElem lt)]; exact e⟩
  · rintro ⟨p, hp, e⟩
    obtain ⟨i, lt, rfl⟩ := List.getElem_of_mem hp
    exact ⟨i, List.mem_range.mpr lt, by rw [h i _ (List.getElem?_eq_getElem lt)]; exact e⟩
theorem takes_any (g : Int → Int → Bool) : Takes2 X "any" (fun a b y => y = .bool (g a b)) (fun ps => .bl (anyP g ps)) := by
  intro pins σ P ps H₁ gen s₅ Q fresh want
  obtain ⟨foot, writes, Gens, Item, At, ⟨W, a0, low⟩, items, behind⟩ := fresh
  let tr : Nat → Bool := fun i => (ps[i]?.map fun p => g p.1 p.2).getD false
  have ht : ∀ i p, ps[i]? = some p → tr i = g p.1 p.2 := fun i p e => by show (ps[i]?.map _).getD false = _; rw [e]; rfl
  refine call_any_walkS (W.self 0 _ _ _ a0 ⟨gen, foot, writes, Gens, ps.length, Item, At, tr, rfl, W, a0, fun i v s' Q' E' it q => ?_, fun s₆ mv => ?_⟩)
  · obtain ⟨p, e, rfl⟩ := items i v it
    rw [ht i p e] at q
    exact wpAny_truthy_bool q
  · obtain ⟨H₂, tabbed, J⟩ := behind s₆ mv
    refine ⟨.bl _, H₂, J, rfl, ?_⟩
    rw [any_is ps (fun p => g p.1 p.2) tr ht]
    exact want H₂ tabbed
/-- a whole number that the expression captures, as its cell has it -/
theorem captured {i : Nat} {y : Str} {n : Int} {P : Addr} (I : Inv X pins σ H s) (hN : X.N[i]? = some y) (hk : X.env.scope.names.lookup y = some .cell) (hv : σ[i]? = some (some (.int n))) (g : TabG H P) :
    ∃ c t, X.env.cells.lookup y = some c ∧ s.heap.IsCell c (some (.int n t)) ∧ c ≠ P := by
  obtain ⟨tb, hP, _⟩ := g
  obtain ⟨m, _, look⟩ := I.loc
  obtain ⟨u, ⟨t, rfl⟩, l⟩ := look i y _ hN hv (.inr (.inl hk))
  rcases l with ⟨z, _⟩ | ⟨_, c, e, o, ho, hd⟩
  · rw [show X.env.kindOf y = some .cell from hk] at z
    cases z
  · refine ⟨c, t, e, ⟨o, ho, hd⟩, fun z => ?_⟩
    rw [z, I.hok P _ hP] at ho
    rw [← Option.some.inj ho] at hd
    cases hd
/-- the names of the module and the built-in ones, where the expression runs -/
theorem names_in {P : Addr} {s₂ : Shared} (I : Inv X pins σ H s) (g : TabG H P) (gP : mainGlobals ≠ P) (kept : ∀ x o, x ≠ P → s.heap.get? x = some o → s₂.heap.get? x = some o) :
    s₂.heap.Ns mainGlobals X.mg ∧ ∃ mb, s₂.heap.Ns builtinsNs mb ∧ ∀ x : Str, x ≠ "__name__" → mb x = bootBuiltins x := by
  obtain ⟨tb, hP, _⟩ := g
  obtain ⟨mb, b1, b2⟩ := I.mod.blt
  have at_ : ∀ b m, b ≠ P → s.heap.Ns b m → s₂.heap.Ns b m := fun b m hb ⟨o, es, ep, ho, r⟩ => ⟨o, es, ep, kept b o hb ho, r⟩
  refine ⟨at_ _ _ gP (I.mod.glob.keeps I.bk), mb, at_ _ _ (fun z => ?_) (b1.keeps I.bk), b2⟩
  obtain ⟨o, es, ep, ho, hd, _⟩ := b1.keeps I.bk
  rw [z, I.hok P _ hP] at ho
  rw [← Option.some.inj ho] at hd
  cases hd
end
end GP

namespace TK
open PySem PySem.Spec PyProof.Rows L2 GP
def topS (i : Nat) : Stmt := PySem.Challenge.pw_tinrecall_k41_samples_put_otherwise.main.body.getD i (.Pass ⟨0, 0, 0, 0⟩)

/-- the draws' state: its dict at d, its cells at c -/
structure StAt (H : Hp) (d c : Addr) (t : Int) : Prop where
  dict : H d = some (.dK [(.inr "cells", .ref c), (.inr "turn", .int t)])
  cells : ∃ cs : List Int, H c = some (.lst (cs.map V.int)) ∧ cs ≠ [] ∧ cs.length ≤ 63
  pos : 0 ≤ t
theorem StAt.ne {H : Hp} {d c : Addr} {t : Int} (h : StAt H d c t) : d ≠ c := by
  obtain ⟨cs, hc, _⟩ := h.cells
  exact ne_of h.dict hc (by intro z; cases z)
/-- all but the state is as it was -/
def Kp (d c : Addr) (H H' : Hp) : Prop := ∀ b o, b ≠ d → b ≠ c → H b = some o → H' b = some o
theorem Kp.refl (d c : Addr) (H : Hp) : Kp d c H H := fun _ _ _ _ h => h
theorem Kp.trans {d c : Addr} {H H1 H2 : Hp} (a : Kp d c H H1) (b : Kp d c H1 H2) : Kp d c H H2 := fun x o h1 h2 h => b x o h1 h2 (a x o h1 h2 h)

theorem ixN_of {n j : Nat} (h : j < n) : ixN n (j : Int) = some j := by
  unfold ixN
  rw [if_pos (Int.natCast_nonneg j), if_pos (by omega), Int.toNat_natCast]
def spTake : Sp := fun vs H Q _ => ∃ (d c : Addr) (t m : Int), vs = [.ref d, .int m] ∧ StAt H d c t ∧ t < 2 ^ 60 ∧ 0 < m ∧ m.natAbs < 2 ^ 250 ∧
  ∀ r H', 0 ≤ r → r < m → StAt H' d c (t + 1) → Kp d c H H' → Q (.int r) H'

abbrev sTake : Stmt := topS 23
theorem scTake : FnScope ["_law_state", "_law_many_here", "_law_turn", "_law_place", "_law_cell", "_law_digit", "_law_mixed"] ["_law_state", "_law_many_here"] (defScope sTake) := ⟨rfl, rfl, rfl, by decide +kernel, rfl, by decide +kernel, by decide +kernel⟩
section
variable {K : PySem.W.Frag} {mg : Str → Option Value} {P : Program} {w : World} {base : Heap}
theorem ok_take {f : Addr} {fd : FuncData} {k : Nat} (F : Fun K "_law_take" "_law_take" sTake f fd) (ml : mg "len" = none) (md : mg "divmod" = none) : FnOk P w K mg base CX0 (k + 1) f fd ["_law_state", "_law_many_here"] spTake := by
  refine F.ok scTake (fun vs H Q E h => ?_) (fun cdv A outer s H vs Q E hr h => ?_)
  · obtain ⟨d, c, t, m, rfl, _⟩ := h
    rfl
  · obtain ⟨d, c, t, m, rfl, hS, ht, hm, hm2, q⟩ := h
    refine ⟨_, pss_cons (ps_set (i := 2) scTake.nd rfl (.inl rfl) (pe_op op_add (pe_dget (hu_of hr) (pv 0) pe_str (fun _ _ => rfl)) pe_int))
      (pss_cons (ps_dput (hu_of hr) (pv 0) pe_str (pv 2) rfl)
      (pss_cons (ps_set (i := 3) scTake.nd rfl (.inl rfl) (pe_op op_mod (pv 2) (pe_callB call_len_seq (by rfl) ml PySem.boot_len (pa_cons (pe_dget (hu_of hr) (pv 0) pe_str (fun _ _ => rfl)) pa_nil))))
      (pss_cons (ps_set (i := 4) scTake.nd rfl (.inl rfl) (pe_ix ix_list (pe_dget (hu_of hr) (pv 0) pe_str (fun _ _ => rfl)) (pv 3) (fun _ _ => rfl)))
      (pss_cons (ps_if (pt_cmpR op_ge (pv 4) (pe_op op_pow pe_int pe_int) (nomark _))
        (pss_cons (ps_asg (pe_callB call_divmodW (by rfl) md (by decide +kernel) (pa_cons (pv 4) (pa_cons (pv 1) pa_nil)))
            (pg_tup rfl (pgs_cons (pg_sub (pe_dget (hu_of hr) (pv 0) pe_str (fun _ _ => rfl)) (pv 3) set_list) (pgs_cons (pg_name (i := 5) scTake.nd rfl (.inl rfl)) pgs_nil))))
          (pss_one (ps_ret (pv 5)))) pss_nil)
      (pss_cons (ps_set (i := 6) scTake.nd rfl (.inl rfl) (pe_op op_mod (pe_op op_mul (pe_op op_add (pe_op op_add (pe_op op_mod (pv 4) pe_int) (pe_op op_mul (pe_op op_mul (pv 2) (pv 2)) pe_int)) pe_int) pe_int) pe_int))
      (pss_cons (ps_set (i := 6) scTake.nd rfl (.inl rfl) (pe_op op_mod (pe_op op_mul (pv 6) (pv 6)) pe_int))
      (pss_one (ps_ret (pe_op op_mod (pe_op op_fdiv (pe_op op_mod (pe_op op_mul (pe_op op_add (pv 6) (pe_op op_mul (pv 2) pe_int)) pe_int) pe_int) pe_int) (pv 1)))))))))), ?_⟩
    obtain ⟨hd, ⟨cs, hc, hne, hlen⟩, hpos⟩ := hS
    have ndc : d ≠ c := ne_of hd hc (by intro z; cases z)
    -- turn = state['turn'] + 1
    refine ⟨.ref d, rfl, d, .int t, rfl, DGet.k (k := Sum.inr "turn") hd, t, 1, rfl, rfl, ?_⟩
    -- state['turn'] = turn
    refine ⟨_, rfl, .ref d, rfl, d, _, rfl, DPut.k (k := Sum.inr "turn") hd (by show 2 < sizeLine; decide), ?_⟩
    have hput : putK [((.inr "cells" : Key), V.ref c), (.inr "turn", .int t)] (.inr "turn") (.int (t + 1)) = [(.inr "cells", .ref c), (.inr "turn", .int (t + 1))] := rfl
    rw [show (.int (t + 1) : V) = V.int (t + 1) from rfl] at *
    rw [hput]
    generalize hH1 : upd H d (.dK [((.inr "cells" : Key), V.ref c), (.inr "turn", .int (t + 1))]) = H1
    have hd1 : H1 d = some (.dK [(.inr "cells", .ref c), (.inr "turn", .int (t + 1))]) := by rw [← hH1]; exact upd_same
    have hc1 : H1 c = some (.lst (cs.map V.int)) := by rw [← hH1, upd_ne ndc.symm]; exact hc
    have k1 : Kp d c H H1 := fun b o h1 h2 e => by rw [← hH1, upd_ne h1]; exact e
    have hlp : 0 < cs.length := List.length_pos_iff.mpr hne
    -- place = turn % len(state['cells'])
    refine ⟨_, rfl, .ref d, rfl, d, .ref c, rfl, DGet.k (k := Sum.inr "cells") hd1, c, _, rfl, .inl (SqL.of hc1), _, _, rfl, rfl, (by show (0 : Int) < ((cs.map V.int).length : Int); rw [List.length_map]; omega), ?_⟩
    dsimp only
    rw [List.length_map]
    have hj0 : 0 ≤ (t + 1) % (cs.length : Int) := Int.emod_nonneg _ (by omega)
    have hj1 : (t + 1) % (cs.length : Int) < cs.length := Int.emod_lt_of_pos _ (by omega)
    obtain ⟨j, hj⟩ := Int.eq_ofNat_of_zero_le hj0
    have hjl : j < cs.length := by omega
    rw [hj]
    have gj : (cs.map V.int)[j]? = some (.int cs[j]) := by rw [List.getElem?_map, List.getElem?_eq_getElem hjl]; rfl
    -- cell = state['cells'][place]
    refine ⟨.ref d, rfl, d, .ref c, rfl, DGet.k (k := Sum.inr "cells") hd1, _, rfl, c, _, _, .int cs[j], rfl, rfl, SqL.of hc1, atI_nat gj, ?_⟩
    generalize cs[j] = x
    -- if cell >= 10 ** 18
    refine ⟨_, rfl, 10, 18, rfl, rfl, ⟨by decide, by decide, by decide⟩, _, _, rfl, rfl, _, rfl, ite2 (fun e => ?_) (fun e => ?_)⟩
    · have hdp : CDivP x m := ⟨hm, PyProof.noPylong_of_log2 (Nat.lt_trans (PySem.Flt.log2_lt_of (by decide) hm2) (by decide))⟩
      refine ⟨_, rfl, _, rfl, x, m, rfl, hdp, fun p hp => ?_⟩
      have npd : d ≠ p := ne_of_none hd1 hp
      have npc : c ≠ p := ne_of_none hc1 hp
      have hd2 : upd H1 p (.tup [.int (x / m), .int (x % m)]) d = some (.dK [(.inr "cells", .ref c), (.inr "turn", .int (t + 1))]) := by rw [upd_ne npd]; exact hd1
      have hc2 : upd H1 p (.tup [.int (x / m), .int (x % m)]) c = some (.lst (cs.map V.int)) := by rw [upd_ne npc]; exact hc1
      refine ⟨p, _, rfl, .inl (.inl upd_same), rfl, _, _, rfl, .ref d, rfl, d, .ref c, rfl, DGet.k (k := Sum.inr "cells") hd2, _, rfl, c, _, _, j, rfl, rfl, hc2, ixN_of (by rw [List.length_map]; exact hjl), _, _, rfl, rfl, ?_⟩
      refine ⟨_, rfl, ?_⟩
      refine q _ _ (Int.emod_nonneg _ (by omega)) (Int.emod_lt_of_pos _ hm) ⟨?_, ⟨cs.set j (x / m), ?_, ?_, ?_⟩, by omega⟩ ?_
      · rw [upd_ne ndc]; exact hd2
      · rw [upd_same, List.map_set]
      · intro z
        have z2 : (cs.set j (x / m)).length = 0 := by rw [z]; rfl
        rw [List.length_set] at z2
        omega
      · rw [List.length_set]; exact hlen
      · intro b o h1 h2 e
        rw [upd_ne h2, upd_ne (ne_of_none (k1 b o h1 h2 e) hp)]
        exact k1 b o h1 h2 e
    · have t1 : t + 1 < 2 ^ 61 := by omega
      -- mixed
      refine ⟨_, rfl, _, _, rfl, rfl, (show (0 : Int) < 2147483629 by decide), _, rfl, _, rfl, t + 1, t + 1, rfl, rfl, .inl ⟨by omega, by omega⟩, _, _, rfl, rfl, .inr ⟨by decide, by decide⟩, _, _, rfl, rfl, _, _, rfl, rfl, _, _, rfl, rfl, .inr ⟨by decide, by decide⟩, _, 2147483647, rfl, rfl, (show (0 : Int) < 2147483647 by decide), ?_⟩
      dsimp only
      generalize hy : ((x % 2147483629 + (t + 1) * (t + 1) * 7919 + 11) * 48271) = y
      have y0 : 0 ≤ y % 2147483647 := Int.emod_nonneg _ (by decide)
      have y1 : y % 2147483647 < 2147483647 := Int.emod_lt_of_pos _ (by decide)
      refine ⟨_, rfl, _, rfl, y % 2147483647, y % 2147483647, rfl, rfl, .inl ⟨by omega, by omega⟩, _, 2147483587, rfl, rfl, (show (0 : Int) < 2147483587 by decide), ?_⟩
      refine ⟨_, rfl, _, rfl, t + 1, 104729, rfl, rfl, .inr ⟨by decide, by decide⟩, _, _, rfl, rfl, _, _, rfl, rfl, .inr ⟨by decide, by decide⟩, _, 2147483629, rfl, rfl, (show (0 : Int) < 2147483629 by decide), _, 64, rfl, rfl, ⟨by decide, by decide⟩, _, rfl, _, m, rfl, rfl, hm, ?_⟩
      exact q _ _ (Int.emod_nonneg _ (by omega)) (Int.emod_lt_of_pos _ hm) ⟨hd1, ⟨cs, hc1, hne, hlen⟩, by omega⟩ k1
end

abbrev sBegin : Stmt := topS 22
theorem scBegin : FnScope ["_law_script", "_law_cells"] ["_law_script"] (defScope sBegin) := ⟨rfl, rfl, rfl, by decide +kernel, rfl, by decide +kernel, by decide +kernel⟩
theorem same_upd {H : Hp} {p : Addr} {o : HO} (h : H p = none) : Same H (upd H p o) := fun b x e => by
  rw [upd_ne (ne_of_none e h)]
  exact e
theorem cut_front (xs : List V) (m : Nat) : cutV xs none (some (m : Int)) = xs.take m := by
  unfold cutV
  rw [HT.sIx_none, HT.sIx_nat]
  show List.take (min m xs.length - 0) (xs.drop 0) = xs.take m
  rw [Nat.sub_zero, List.drop_zero]
  by_cases h : m ≤ xs.length
  · rw [Nat.min_eq_left h]
  · rw [Nat.min_eq_right (by omega), List.take_length, List.take_of_length_le (by omega)]
theorem dp_ints {K : PySem.W.Frag} {H : Hp} : ∀ ns : List Int, DpAll K H (ns.map V.int) (ns.map PyData.int)
  | [] => .nil
  | n :: r => .cons (.int n) (dp_ints r)
theorem lay_ints : ∀ ns : List Int, PyData.canLayAll0 (ns.map PyData.int) = true
  | [] => by simp only [List.map_nil, PyData.canLayAll0]
  | n :: r => by
    rw [List.map_cons, PyData.canLayAll0, lay_ints r]
    simp [PyData.canLay0]
theorem depth_ints : ∀ ns : List Int, PyData.depthAll (ns.map PyData.int) = 0
  | [] => by simp only [List.map_nil, PyData.depthAll]
  | n :: r => by
    rw [List.map_cons, PyData.depthAll, depth_ints r]
    simp [PyData.depth]
theorem shaped_ints (ns : List Int) : SeqAt.shaped (PyData.list (ns.map PyData.int)) = true := by
  unfold SeqAt.shaped
  rw [PyData.canLay0, lay_ints, PyData.depth, depth_ints]
  rfl
theorem eqv_nil (n : Int) (r : List Int) : PyData.eqv (PyData.list ((n :: r).map PyData.int)) (PyData.list []) = false := by
  simp [PyData.eqv, PyData.eqvAll]
theorem eqv_nil0 : PyData.eqv (PyData.list (([] : List Int).map PyData.int)) (PyData.list []) = true := by
  simp [PyData.eqv, PyData.eqvAll]
def spBegin (K : PySem.W.Frag) : Sp := fun vs H Q _ => ∃ (a : Addr) (ns : List Int), vs = [.ref a] ∧ SqL K H a (ns.map V.int) ∧ ns.length ≤ 63 ∧
  ∀ d c H', Same H H' → H d = none → H c = none → StAt H' d c 0 → Q (.ref d) H'
section
variable {K : PySem.W.Frag} {mg : Str → Option Value} {P : Program} {w : World} {base : Heap}
theorem ok_begin {f : Addr} {fd : FuncData} {k : Nat} (F : Fun K "_law_begin" "_law_begin" sBegin f fd) (ml : mg "list" = none) : FnOk P w K mg base CX0 (k + 1) f fd ["_law_script"] (spBegin K) := by
  refine F.ok scBegin (fun vs H Q E h => ?_) (fun cdv A outer s H vs Q E hr h => ?_)
  · obtain ⟨a, ns, rfl, _⟩ := h
    rfl
  · obtain ⟨a, ns, rfl, hS, hlen, q⟩ := h
    refine ⟨_, pss_cons (ps_set (i := 1) scBegin.nd rfl (.inl rfl) (pe_callTy call_list_of (by rfl) ml (by decide +kernel) (pa_cons (pe_slice sl_list (pv 0) po_none (po_some pe_int)) pa_nil)))
      (pss_cons (ps_if (pt_cmpR (op_eqD hr.units) (pv 1) (pe_lst pa_nil) (nomark _)) (pss_one (ps_set (i := 1) scBegin.nd rfl (.inl rfl) (pe_lst (pa_cons pe_int pa_nil)))) pss_nil)
      (pss_one (ps_ret (pe_disp (pps_cons pe_str (pv 1) (pps_cons pe_str pe_int pps_nil)) (by rfl) (by rfl) (fun z => by cases z) (by decide))))), ?_⟩
    -- the end: a dict of what stands at the cells' place
    have fin : ∀ (H1 : Hp) (c : Addr) (cs : List Int) (y : Option V), Same H H1 → H c = none → H1 c = some (.lst (cs.map V.int)) → cs ≠ [] → cs.length ≤ 63 →
        (tRet (tDisp [(tC (.str "cells"), tVar 1), (tC (.str "turn"), tC (.int 0))])) { nx := fun _ H' => Q .non H', rt := Q } [some (.ref a), some (.ref c)] H1 := by
      intro H1 c cs y s1 nc ec hne hl
      refine fun d nd => ⟨_, rfl, upd_same, [(.inr "cells", .ref c), (.inr "turn", .int 0)], rfl, (by show 2 ≤ 15; decide), ?_⟩
      have ndc : c ≠ d := ne_of_none ec nd
      refine q d c _ (fun b o e => ?_) (s1.free nd) nc ⟨?_, ⟨cs, ?_, hne, hl⟩, by decide⟩
      · have nb : b ≠ d := ne_of_none (s1 b o e) nd
        rw [upd_ne nb, upd_ne nb]
        exact s1 b o e
      · exact upd_same
      · rw [upd_ne ndc, upd_ne ndc]
        exact ec
    refine ⟨.ref a, rfl, 63, rfl, a, ns.map V.int, rfl, hS, fun p np => ?_⟩
    have s1 : Same H (upd H p (.lst (cutV (ns.map V.int) none (some 63)))) := same_upd np
    refine ⟨p, _, rfl, .inl (SqL.of upd_same), fun l nl => ?_⟩
    have s2 := s1.trans (same_upd (o := .lst (cutV (ns.map V.int) none (some 63))) nl)
    have ecut : cutV (ns.map V.int) none (some 63) = ns.map V.int := by
      have e := cut_front (ns.map V.int) 63
      have e2 : cutV (ns.map V.int) none (some 63) = (ns.map V.int).take 63 := e
      rw [e2, List.take_of_length_le (by rw [List.length_map]; exact hlen)]
    have el : upd (upd H p (.lst (cutV (ns.map V.int) none (some 63)))) l (.lst (cutV (ns.map V.int) none (some 63))) l = some (.lst (ns.map V.int)) := by
      rw [upd_same, ecut]
    revert s2 el
    generalize upd (upd H p (.lst (cutV (ns.map V.int) none (some 63)))) l (.lst (cutV (ns.map V.int) none (some 63))) = H2
    intro s2 el
    have nlH : H l = none := s1.free nl
    -- if cells == []
    refine ⟨.ref l, rfl, Nat.zero_le _, fun z nz => ?_⟩
    have s3 := s2.trans (same_upd (o := .lst []) nz)
    have nlz : l ≠ z := ne_of_none el nz
    have el3 : upd H2 z (.lst []) l = some (.lst (ns.map V.int)) := by rw [upd_ne nlz]; exact el
    refine ⟨.list (ns.map PyData.int), .list [], .lst (SqL.of el3) (dp_ints ns), .lst (SqL.of upd_same) .nil, shaped_ints ns, shaped_ints [], ?_⟩
    cases ns with
    | nil =>
      refine ⟨true, by rw [eqv_nil0], iteT ?_⟩
      refine ⟨(by show 1 ≤ sizeLine; decide), fun c nc => ?_⟩
      exact fin _ c [_] none (s3.trans (same_upd nc)) (s3.free nc) upd_same (by simp) (by decide)
    | cons n r =>
      refine ⟨false, by rw [eqv_nil], iteF ?_⟩
      exact fin _ l (n :: r) none s3 nlH el3 (by simp) hlen
end

/-- a def of the text that keeps a promise, as its callers see it -/
def Cal (P : Program) (w : World) (K : PySem.W.Frag) (mg : Str → Option Value) (base : Heap) (k : Nat) (x : Str) (ps : List Str) (sp : Sp) : Prop :=
  ∃ f fd, FnOk P w K mg base CX0 k f fd ps sp ∧ mg x = some (.ref f) ∧ PySem.W.keepIn K (.ref f) = true ∧ Binds K fd ps []
theorem pe_own {X : Cx} {k : Nat} {x : Str} {ps : List Str} {sp : Sp} {e : Expr} {es : List Expr} {t : TA} {p pos : Pos} (C : Cal X.prog X.w X.K X.mg X.base k x ps sp) (hr : Room k X.A) (hg : Gl X x) (ha : PA X (e :: es) t)
    (dbg : (x == ("__debug__" : Str)) = false := by decide) (one : starEach (e :: es) X.env = (false, eval e X.env) :: starEach es X.env := by rfl) (star : (backTo pos (starEach es X.env)).any (·.1) = false := by rfl) :
    PE X (.Call (.Name x p) (e :: es) [] pos) (tCall sp [] E0 t) := by
  obtain ⟨f, fd, F, hm, hk, hb⟩ := C
  exact pe_call F hr hg hm hk hb .nil pass0 ha dbg one star
theorem StAt.same {H H' : Hp} {d c : Addr} {t : Int} (h : StAt H d c t) (s : Same H H') : StAt H' d c t :=
  ⟨s _ _ h.dict, let ⟨cs, e, r⟩ := h.cells; ⟨cs, s _ _ e, r⟩, h.pos⟩
theorem Kp.same {H H' : Hp} (d c : Addr) (s : Same H H') : Kp d c H H' := fun b o _ _ e => s b o e
/-- what is made behind the state stays -/
theorem Kp.at {H H' : Hp} {d c a : Addr} {t : Int} {o : HO} (k : Kp d c H H') (S : StAt H d c t) (e : H a = some o) (h1 : ∀ kvs, o ≠ .dK kvs) (h2 : ∀ ns : List Int, o ≠ .lst (ns.map V.int)) : H' a = some o := by
  obtain ⟨cs, ec, _⟩ := S.cells
  refine k a o (fun z => ?_) (fun z => ?_) e
  · rw [z, S.dict] at e
    exact h1 _ (Option.some.inj e).symm
  · rw [z, ec] at e
    exact h2 _ (Option.some.inj e).symm
theorem StAt.upd {H : Hp} {d c l : Addr} {t : Int} {o : HO} (S : StAt H d c t) (h1 : l ≠ d) (h2 : l ≠ c) : StAt (L2.upd H l o) d c t := by
  refine ⟨by rw [upd_ne h1.symm]; exact S.dict, ?_, S.pos⟩
  obtain ⟨cs, ec, r⟩ := S.cells
  exact ⟨cs, by rw [upd_ne h2.symm]; exact ec, r⟩

theorem _root_.GP.Prs.same {H H' : Hp} {vs : List V} {ps : List (Int × Int)} (h : Prs H vs ps) (s : Same H H') : Prs H' vs ps :=
  ⟨h.1, fun i p e => let ⟨a, e1, e2⟩ := h.2 i p e; ⟨a, e1, s _ _ e2⟩⟩
theorem _root_.GP.Prs.kp {H H' : Hp} {d c : Addr} {t : Int} {vs : List V} {ps : List (Int × Int)} (h : Prs H vs ps) (S : StAt H d c t) (k : Kp d c H H') : Prs H' vs ps :=
  ⟨h.1, fun i p e => let ⟨a, e1, e2⟩ := h.2 i p e; ⟨a, e1, k.at S e2 (fun _ z => nomatch z) (fun _ z => nomatch z)⟩⟩
theorem _root_.GP.Prs.upd_lst {H : Hp} {l : Addr} {xs : List V} {o : HO} {vs : List V} {ps : List (Int × Int)} (h : Prs H vs ps) (hl : H l = some (.lst xs)) : Prs (upd H l o) vs ps :=
  ⟨h.1, fun i p e => let ⟨a, e1, e2⟩ := h.2 i p e; ⟨a, e1, by rw [upd_ne (ne_of e2 hl (fun z => nomatch z))]; exact e2⟩⟩
theorem _root_.GP.Prs.nil {H : Hp} : Prs H [] [] := ⟨rfl, fun i p e => by simp at e⟩
theorem _root_.GP.Prs.snoc {H : Hp} {a : Addr} {x y : Int} {vs : List V} {ps : List (Int × Int)} (h : Prs H vs ps) (e : H a = some (.tup [.int x, .int y])) : Prs H (vs ++ [.ref a]) (ps ++ [(x, y)]) := by
  refine ⟨by simp [h.1], fun i p ep => ?_⟩
  by_cases hi : i < ps.length
  · rw [List.getElem?_append_left hi] at ep
    obtain ⟨b, e1, e2⟩ := h.2 i p ep
    exact ⟨b, by rw [List.getElem?_append_left (by rw [h.1]; exact hi)]; exact e1, e2⟩
  · rw [List.getElem?_append_right (by omega)] at ep
    have hz : i - ps.length = 0 := by
      cases hq : i - ps.length with
      | zero => rfl
      | succ n => rw [hq] at ep; simp at ep
    rw [hz] at ep
    have ep' : (x, y) = p := by simpa using ep
    subst ep'
    refine ⟨a, ?_, e⟩
    rw [List.getElem?_append_right (by rw [h.1]; omega), h.1, hz]
    rfl
/-- rising stretches with gaps, from lo on -/
def Ris : Int → List (Int × Int) → Prop
  | _, [] => True
  | lo, p :: r => lo ≤ p.1 ∧ p.1 ≤ p.2 ∧ Ris (p.2 + 2) r
theorem Ris.snoc : ∀ {lo : Int} {ps : List (Int × Int)} {a b : Int}, Ris lo ps → lo ≤ a → (∀ p ∈ ps, p.2 + 2 ≤ a) → a ≤ b → Ris lo (ps ++ [(a, b)])
  | lo, [], a, b, _, h1, _, h3 => ⟨h1, h3, True.intro⟩
  | lo, p :: r, a, b, h, h1, h2, h3 => ⟨h.1, h.2.1, Ris.snoc h.2.2 (h2 p (List.mem_cons_self ..)) (fun q hq => h2 q (List.mem_cons_of_mem _ hq)) h3⟩
theorem pick2 {x y r : Int} (Pv : Int → Prop) (h0 : 0 ≤ r) (h1 : r < 2) (hx : Pv x) (hy : Pv y) : ∃ v, Pv v ∧ atI [V.int x, V.int y] r = some (.int v) := by
  have : r = 0 ∨ r = 1 := by omega
  rcases this with rfl | rfl
  · exact ⟨x, hx, rfl⟩
  · exact ⟨y, hy, rfl⟩
theorem pick3 {x y z r : Int} (Pv : Int → Prop) (h0 : 0 ≤ r) (h1 : r < 3) (hx : Pv x) (hy : Pv y) (hz : Pv z) : ∃ v, Pv v ∧ atI [V.int x, V.int y, V.int z] r = some (.int v) := by
  have : r = 0 ∨ r = 1 ∨ r = 2 := by omega
  rcases this with rfl | rfl | rfl
  · exact ⟨x, hx, rfl⟩
  · exact ⟨y, hy, rfl⟩
  · exact ⟨z, hz, rfl⟩
/-- a new object stands through the state's change -/
theorem Kp.new {H H' : Hp} {d c l : Addr} {t : Int} {o : HO} (k : Kp d c (upd H l o) H') (S : StAt H d c t) (n : H l = none) : H' l = some o := by
  obtain ⟨cs, ec, _⟩ := S.cells
  exact k l o (ne_of_none S.dict n).symm (ne_of_none ec n).symm upd_same
theorem drop_at {α : Type} {l : List α} {i : Nat} {x : α} (h : l[i]? = some x) : l.drop i = x :: l.drop (i + 1) := by
  obtain ⟨lt, e⟩ := List.getElem?_eq_some_iff.mp h
  rw [← e]
  exact List.drop_eq_getElem_cons lt
theorem prs_at {H : Hp} {vs : List V} {ps : List (Int × Int)} {i : Nat} {x : V} (h : Prs H vs ps) (e : vs[i]? = some x) : ∃ (p : Int × Int) (a : Addr), ps[i]? = some p ∧ x = .ref a ∧ H a = some (.tup [.int p.1, .int p.2]) := by
  obtain ⟨hi, _⟩ := List.getElem?_eq_some_iff.mp e
  have hi2 : i < ps.length := by rw [← h.1]; exact hi
  obtain ⟨a, e1, e2⟩ := h.2 i ps[i] (List.getElem?_eq_getElem hi2)
  rw [e] at e1
  exact ⟨ps[i], a, List.getElem?_eq_getElem hi2, Option.some.inj e1, e2⟩

theorem sumP_append (g : Int → Int → Int) (ps qs : List (Int × Int)) : sumP g (ps ++ qs) = sumP g ps + sumP g qs := by
  unfold sumP
  rw [List.map_append, List.sum_append]
def inB (n a b : Int) : Bool := decide (a ≤ n) && decide (n ≤ b)
theorem Ris.le : ∀ {lo : Int} {ps : List (Int × Int)}, Ris lo ps → ∀ p ∈ ps, lo ≤ p.1 ∧ p.1 ≤ p.2
  | _, [], _, _, hp => nomatch hp
  | lo, q :: r, h, p, hp => by
    rcases List.mem_cons.mp hp with e | e'
    · rw [e]; exact ⟨h.1, h.2.1⟩
    · have := Ris.le h.2.2 p e'
      have := h.2.1
      have := h.1
      omega

/-! ### walks over a list or a tuple -/
def Sq (K : PySem.W.Frag) (H : Hp) (a : Addr) (xs : List V) : Prop := SqL K H a xs ∨ SqT K H a xs
def iSeq (K : PySem.W.Frag) (tl : TE) : TI := fun σ H R => tl σ H fun x H1 => ∃ a, x = .ref a ∧ (((∃ xs, SqL K H1 a xs) ∧ R (Itl K a) H1) ∨ ((∃ xs, SqT K H1 a xs) ∧ R (Itt K a) H1))
/-- the iterator that was just laid is no one's -/
theorem lone {X : Cx} {pins : List (Addr × Obj)} {σ : L2.St} {H : Hp} {s : Shared} (I : Inv X pins σ H s) : ∀ b ∈ [s.heap.objs.size], FpOk X pins H b := fun b hb => by
  rw [List.mem_singleton.mp hb]
  exact I.fpOk (H' := H) (Nat.le_refl _) (I.hok.fresh (Nat.le_refl _))
theorem pi_seq {X : Cx} {tg l : Expr} {tl : TE} (walked : PE X l tl) : PI X tg l (iSeq X.K tl) := by
  constructor
  intro pins s σ H R I h
  refine thn (walked.run pins s σ H _ I h) fun u s1 had => ?_
  obtain ⟨_, H1, J, rel, a, rfl, had⟩ := had
  cases rel
  have laid : ∀ o, Inv X pins σ H1 { s1 with heap := s1.heap.push o } := fun o => J.kept (t' := s1.toks) fun _ _ e => Heap.get?_push_of_some _ e
  rcases had with ⟨⟨xs, hq⟩, q⟩ | ⟨⟨xs, hq⟩, q⟩
  · obtain ⟨its, _, isL, _⟩ := J.list hq
    exact wpAny_pyIter_list isL.isList ⟨_, _, _, _, H1, rfl, laid _, turn_list a _, ⟨_, Heap.get?_push_size _ rfl, rfl, rfl⟩, lone J, q⟩
  · obtain ⟨its, _, isT, _⟩ := J.tuple hq
    exact wpAny_pyIter_tuple (items := its.toArray) isT ⟨_, _, _, _, H1, rfl, laid _, turn_tuple a _, ⟨_, Heap.get?_push_size _ rfl, rfl, rfl⟩, lone J, q⟩
/-- the walked thing stands as it stood -/
def SqTo (K : PySem.W.Frag) (H H' : Hp) (a : Addr) (xs : List V) : Prop := (SqL K H a xs → SqL K H' a xs) ∧ (SqT K H a xs → SqT K H' a xs)
theorem SqTo.refl {K : PySem.W.Frag} {H : Hp} {a : Addr} {xs : List V} : SqTo K H H a xs := ⟨fun h => h, fun h => h⟩
theorem same_t {K : PySem.W.Frag} {H H' : Hp} {a : Addr} {xs : List V} (s : Same H H') (h : SqT K H a xs) : SqT K H' a xs :=
  h.elim (fun r => .inl (r.elim (fun e => .inl (s a _ e)) fun ⟨o, e⟩ => .inr ⟨o, s a _ e⟩)) .inr
theorem SqTo.same {K : PySem.W.Frag} {H H' : Hp} {a : Addr} {xs : List V} (s : Same H H') : SqTo K H H' a xs := ⟨s.seq, same_t s⟩
theorem Sq.same {K : PySem.W.Frag} {H H' : Hp} {a : Addr} {xs : List V} (h : Sq K H a xs) (s : Same H H') : Sq K H' a xs := h.elim (fun h => .inl (s.seq h)) fun h => .inr (same_t s h)
theorem Sq.list {K : PySem.W.Frag} {H : Hp} {a : Addr} {xs : List V} (h : H a = some (.lst xs)) : Sq K H a xs := .inl (SqL.of h)
theorem Sq.tup {K : PySem.W.Frag} {H : Hp} {a : Addr} {xs : List V} (h : H a = some (.tup xs)) : Sq K H a xs := .inr (.inl (.inl h))
abbrev ForR (J : It) (g : TG) (tb : TS) (D : Ends) (σ : L2.St) (H1 : Hp) : Prop := ∃ W : Nat → Nat → L2.St → Hp → Prop, (∃ m, W 0 m σ H1) ∧ ∀ i m σ H, W i m σ H →
  (J.stop i H ∧ D.nx σ H) ∨ (J.go i H ∧ ∃ N : L2.St → Hp → Prop, (∀ σ' H', N σ' H' → ∃ m', m' < m ∧ W (i + 1) m' σ' H') ∧ ∀ x H', J.yld i H x H' → g x σ H' fun σ2 H2 => tb { D with nx := N, ct := N, bk := D.nx } σ2 H2)
theorem for_seq {K : PySem.W.Frag} {a : Addr} {xs : List V} {g : TG} {tb : TS} {D : Ends} {σ : L2.St} {H1 : Hp} (hq : Sq K H1 a xs) (Pv : Nat → L2.St → Hp → Prop) (h0 : Pv 0 σ H1)
    (hl : ∀ i σ H', i ≤ xs.length → Pv i σ H' → SqTo K H1 H' a xs)
    (turn : ∀ i x σ H, xs[i]? = some x → Pv i σ H → g x σ H fun σ2 H2 => tb { D with nx := Pv (i + 1), ct := Pv (i + 1), bk := D.nx } σ2 H2) (fin : ∀ σ H, Pv xs.length σ H → D.nx σ H) :
    ((∃ xs, SqL K H1 a xs) ∧ ForR (Itl K a) g tb D σ H1) ∨ ((∃ xs, SqT K H1 a xs) ∧ ForR (Itt K a) g tb D σ H1) := by
  rcases hq with h | h
  · exact .inl ⟨⟨xs, h⟩, for_list (xs := xs) Pv h0 (fun i σ H' hi p => (hl i σ H' hi p).1 h) turn fin⟩
  · exact .inr ⟨⟨xs, h⟩, for_tup (xs := xs) Pv h0 (fun i σ H' hi p => (hl i σ H' hi p).2 h) turn fin⟩

/-! ### pairs as data -/
def pairD (p : Int × Int) : PyData := .tuple [.int p.1, .int p.2]
theorem dp_prs {K : PySem.W.Frag} {H : Hp} : ∀ {us : List V} {ps : List (Int × Int)}, Prs H us ps → DpAll K H us (ps.map pairD)
  | [], [], _ => .nil
  | [], _ :: _, h => nomatch h.1
  | _ :: _, [], h => nomatch h.1
  | u :: us, p :: ps, h => by
    obtain ⟨a, e1, e2⟩ := h.2 0 p rfl
    have eu : u = .ref a := Option.some.inj e1
    subst eu
    refine .cons (.tup (.inl (.inl e2)) (.cons (.int _) (.cons (.int _) .nil))) (dp_prs ⟨Nat.succ.inj h.1, fun i q e => ?_⟩)
    obtain ⟨b, f1, f2⟩ := h.2 (i + 1) q e
    exact ⟨b, f1, f2⟩
theorem lay_prs : ∀ ps : List (Int × Int), PyData.canLayAll0 (ps.map pairD) = true
  | [] => by simp only [List.map_nil, PyData.canLayAll0]
  | p :: r => by
    rw [List.map_cons, PyData.canLayAll0, lay_prs r]
    simp [pairD, PyData.canLay0, PyData.canLayAll0]
theorem depth_prs : ∀ ps : List (Int × Int), PyData.depthAll (ps.map pairD) ≤ 1
  | [] => by simp only [List.map_nil, PyData.depthAll]; omega
  | p :: r => by
    rw [List.map_cons, PyData.depthAll]  -- a pair, then the rest
    have := depth_prs r
    simp [pairD, PyData.depth, PyData.depthAll]
    omega
theorem shaped_prs (ps : List (Int × Int)) : SeqAt.shaped (PyData.list (ps.map pairD)) = true := by
  unfold SeqAt.shaped
  rw [PyData.canLay0, lay_prs, PyData.depth, Bool.true_and]
  exact decide_eq_true (by have := depth_prs ps; omega)
theorem eqv_prs (ps : List (Int × Int)) : PyData.eqv (PyData.list (ps.map pairD)) (PyData.list (ps.map pairD)) = true := SeqAt.eqv_refl _ (by rw [PyData.canLay0]; exact lay_prs ps)
theorem tabG_tabbed {Pt Pu : Addr} {H H2 : Hp} (g : GxR.TabG H Pu) (x : GxR.Tabbed Pt H H2) : GxR.TabG H2 Pu := by
  by_cases e : Pu = Pt
  · rw [e]; exact x.1
  · obtain ⟨ps, h, r⟩ := g
    exact ⟨ps, by rw [x.2 _ e]; exact h, r⟩

theorem Kp.free {H H' : Hp} {d c l : Addr} {t' : Int} (k : Kp d c H H') (S' : StAt H' d c t') (n : H' l = none) : H l = none := by
  cases e : H l with
  | none => rfl
  | some o =>
    obtain ⟨cs1, ec1, _⟩ := S'.cells
    have z := k l o (ne_of_none S'.dict n).symm (ne_of_none ec1 n).symm e
    rw [n] at z
    cases z
theorem StAt.off {H : Hp} {d c l : Addr} {t : Int} (S : StAt H d c t) (n : H l = none) : l ≠ d ∧ l ≠ c := by
  obtain ⟨cs1, ec1, _⟩ := S.cells
  exact ⟨(ne_of_none S.dict n).symm, (ne_of_none ec1 n).symm⟩
/-- no whole number among these: so it's not the draws' cells -/
def NoInt (xs : List V) : Prop := ∀ x ∈ xs, ∀ i, x ≠ .int i
theorem Kp.lst {H H' : Hp} {d c a : Addr} {t : Int} {xs : List V} (k : Kp d c H H') (S : StAt H d c t) (e : H a = some (.lst xs)) (h : NoInt xs) : H' a = some (.lst xs) := by
  obtain ⟨cs, ec, hne, _⟩ := S.cells
  refine k a _ (fun z => ?_) (fun z => ?_) e
  · rw [z, S.dict] at e
    cases e
  · rw [z, ec] at e
    have e' : cs.map V.int = xs := HO.lst.inj (Option.some.inj e)
    cases cs with
    | nil => exact hne rfl
    | cons n r => exact h (.int n) (e' ▸ List.mem_cons_self ..) n rfl
theorem Kp.tup {H H' : Hp} {d c a : Addr} {t : Int} {xs : List V} (k : Kp d c H H') (S : StAt H d c t) (e : H a = some (.tup xs)) : H' a = some (.tup xs) := k.at S e (fun _ z => nomatch z) (fun _ z => nomatch z)
theorem noInt_strs (xs : List Str) : NoInt (xs.map V.str) := fun x hx i e => by
  obtain ⟨y, _, rfl⟩ := List.mem_map.mp hx
  cases e
theorem noInt_prs {H : Hp} {us : List V} {ps : List (Int × Int)} (h : Prs H us ps) : NoInt us := fun x hx i e => by
  obtain ⟨j, hj, e1⟩ := List.getElem_of_mem hx
  obtain ⟨p, a, _, rfl, _⟩ := prs_at h (by rw [List.getElem?_eq_getElem hj, e1])
  cases e

/-- a text of one sign -/
def sgS (c : Nat) : Str := ⟨#[c]⟩
def sgn (c : Nat) : V := .str (sgS c)
def spNames : Sp := fun vs H Q _ => ∃ (d c : Addr) (t m : Int), vs = [.ref d, .int m] ∧ StAt H d c t ∧ t + 100 < 2 ^ 60 ∧ 0 ≤ m ∧ m ≤ 20 ∧
  ∀ (l : Addr) (xs : List Str) (t' : Int) H', H l = none → H' l = some (.lst (xs.map V.str)) → (∀ x ∈ xs, PyData.strOk x = true) → (xs.length : Int) = m → xs.Nodup → t ≤ t' → t' ≤ t + 20 → StAt H' d c t' → Kp d c H H' → Q (.ref l) H'
theorem join_small {cs : List Nat} (h : cs.length ≤ 10) : ((cs.map sgS).map (·.length)).sum + (cs.map sgS).length * ("" : Str).length ≤ 16777216 := by
  have e : ((cs.map sgS).map (·.length)).sum = cs.length := by
    induction cs with
    | nil => rfl
    | cons c r ih =>
      rw [List.map_cons, List.map_cons, List.sum_cons, ih (by rw [List.length_cons] at h; omega), List.length_cons]
      show 1 + r.length = r.length + 1
      omega
  rw [e, show ("" : Str).length = 0 from rfl, Nat.mul_zero]
  omega
theorem joinL_ones : ∀ cs : List Nat, TL.joinL [] (cs.map fun c => [c]) = cs
  | [] => rfl
  | [_] => rfl
  | c :: c2 :: r => by
    have ih := joinL_ones (c2 :: r)
    show [c] ++ ([] ++ TL.joinL [] ((c2 :: r).map fun c => [c])) = _
    rw [ih]
    rfl
theorem join_ok {cs : List Nat} (h : ∀ c ∈ cs, c < 1114112) : PyData.strOk (Txt.join "" (cs.map sgS)) = true := by
  have e : Txt.join "" (cs.map sgS) = SX.S cs := by
    have z := SX.join_S [] (cs.map fun c => [c])
    rw [joinL_ones, List.map_map] at z
    exact z
  rw [e]
  show (Array.all _ _) = true
  rw [Array.all_eq_true']
  intro c hc
  exact decide_eq_true (h c (by simpa using hc))
/-- words that are unlike at one sign -/
def Spelt (abc : Str) (N fi sv : Int) (js : Nat) (xs : List Str) : Prop := ∀ (k : Nat) x, xs[k]? = some x → ∃ (cs : List Nat) (ch : Nat), x = SX.S cs ∧ cs[js]? = some ch ∧ atI abc.cps.toList ((fi + sv * (k : Int)) % N) = some ch
theorem join_eq (cs : List Nat) : Txt.join "" (cs.map sgS) = SX.S cs := by
  have z := SX.join_S [] (cs.map fun c => [c])
  rw [joinL_ones, List.map_map] at z
  exact z
theorem Spelt.snoc {abc : Str} {N fi sv : Int} {js i : Nat} {xs : List Str} {cs : List Nat} {ch : Nat} (h : Spelt abc N fi sv js xs) (hl : xs.length = i) (e1 : cs[js]? = some ch) (e2 : atI abc.cps.toList ((fi + sv * (i : Int)) % N) = some ch) : Spelt abc N fi sv js (xs ++ [Txt.join "" (cs.map sgS)]) := fun k x e => by
  by_cases hk : k < xs.length
  · rw [List.getElem?_append_left hk] at e
    exact h k x e
  · rw [List.getElem?_append_right (by omega)] at e
    have hz : k - xs.length = 0 := by
      cases hq : k - xs.length with
      | zero => rfl
      | succ n => rw [hq] at e; cases e
    rw [hz] at e
    cases e
    have hki : k = i := by omega
    subst hki
    exact ⟨cs, ch, join_eq cs, e1, e2⟩
theorem Spelt.nodup {abc : Str} {N fi sv : Int} {js : Nat} {xs : List Str} (h : Spelt abc N fi sv js xs) (hN : 0 < N) (hl : (abc.cps.toList.length : Int) = N) (hn : abc.cps.toList.Nodup) (far : ∀ k k' : Nat, k < xs.length → k' < xs.length → (fi + sv * (k : Int)) % N = (fi + sv * (k' : Int)) % N → k = k') : xs.Nodup := by
  refine List.pairwise_iff_getElem.mpr fun i j hi hj hij ex => ?_
  obtain ⟨cs1, c1, e1, f1, g1⟩ := h i xs[i] (List.getElem?_eq_getElem hi)
  obtain ⟨cs2, c2, e2, f2, g2⟩ := h j xs[j] (List.getElem?_eq_getElem hj)
  rw [e1, e2] at ex
  have ec : cs1 = cs2 := SX.S_inj ex
  rw [ec, f2] at f1
  have ecc : c2 = c1 := Option.some.inj f1
  rw [← ecc] at g1
  obtain ⟨a, ha⟩ := Int.eq_ofNat_of_zero_le (Int.emod_nonneg (fi + sv * (i : Int)) (show N ≠ 0 by omega))
  obtain ⟨b, hb⟩ := Int.eq_ofNat_of_zero_le (Int.emod_nonneg (fi + sv * (j : Int)) (show N ≠ 0 by omega))
  have la := Int.emod_lt_of_pos (fi + sv * (i : Int)) hN
  have lb := Int.emod_lt_of_pos (fi + sv * (j : Int)) hN
  rw [ha] at g1 la
  rw [hb] at g2 lb
  have a1 : a < abc.cps.toList.length := by omega
  have b1 : b < abc.cps.toList.length := by omega
  have g1' : abc.cps.toList[a]? = some c2 := by
    have z := atI_nat (List.getElem?_eq_getElem a1)
    rw [z] at g1
    rw [List.getElem?_eq_getElem a1]
    exact g1
  have g2' : abc.cps.toList[b]? = some c2 := by
    have z := atI_nat (List.getElem?_eq_getElem b1)
    rw [z] at g2
    rw [List.getElem?_eq_getElem b1]
    exact g2
  have eab : a = b := (List.getElem?_inj a1 hn).mp (g1'.trans g2'.symm)
  have := far i j (by omega) hj (by rw [ha, hb, eab])
  omega
/-! ### _law_names -/

theorem snoc_cases {α : Type} (l : List α) : l = [] ∨ ∃ l' x, l = l' ++ [x] := by
  rcases List.eq_nil_or_concat l with h | ⟨l', x, h⟩
  · exact .inl h
  · exact .inr ⟨l', x, by rw [h]; simp⟩
theorem _root_.GP.Prs.last {H : Hp} {us : List V} {ps : List (Int × Int)} {p : Int × Int} (h : Prs H us (ps ++ [p])) : ∃ us' T, us = us' ++ [.ref T] ∧ H T = some (.tup [.int p.1, .int p.2]) ∧ Prs H us' ps := by
  have hl := h.1
  rw [List.length_append] at hl
  rcases snoc_cases us with e | ⟨us', x, e⟩
  · rw [e] at hl
    simp at hl
  · subst e
    rw [List.length_append] at hl
    have hl' : us'.length = ps.length := Nat.add_right_cancel hl
    obtain ⟨T, e1, e2⟩ := h.2 ps.length p (by rw [List.getElem?_append_right (Nat.le_refl _), Nat.sub_self]; rfl)
    rw [List.getElem?_append_right (by omega), hl', Nat.sub_self] at e1
    refine ⟨us', T, by rw [Option.some.inj e1], e2, hl', fun i q eq => ?_⟩
    have hi : i < ps.length := (List.getElem?_eq_some_iff.mp eq).1
    obtain ⟨b, f1, f2⟩ := h.2 i q (by rw [List.getElem?_append_left hi]; exact eq)
    rw [List.getElem?_append_left (by omega)] at f1
    exact ⟨b, f1, f2⟩
theorem eqv_pr_nil (ps : List (Int × Int)) : PyData.eqv (PyData.list (ps.map pairD)) (PyData.list []) = ps.isEmpty := by
  cases ps with
  | nil => simp [PyData.eqv, PyData.eqvAll]
  | cons p r => simp [PyData.eqv, PyData.eqvAll]
def rIxS (K : PySem.W.Frag) : R2 := fun x y H Q => ∃ p xs i v, x = .ref p ∧ y = .int i ∧ Sq K H p xs ∧ atI xs i = some v ∧ Q v H
theorem ix_seq {X : Cx} : IxR X (rIxS X.K) := by
  intro value slice pins s σ H x y v u Q I rx ry h hs
  obtain ⟨p, xs, i, z, e1, e2, hq, he, q⟩ := h
  rcases hq with hq | hq
  · exact ix_list value slice pins s σ H x y v u Q I rx ry ⟨p, xs, i, z, e1, e2, hq, he, q⟩ hs
  · exact ix_tup value slice pins s σ H x y v u Q I rx ry ⟨p, xs, i, z, e1, e2, hq, he, q⟩ hs

/-! ### the table of the def that holds the generator expression -/
theorem tab_at {Pt : Addr} {H H2 : Hp} {b : Addr} {o : HO} (g : GxR.TabG H Pt) (t : GxR.Tabbed Pt H H2) (e : H b = some o) (h : ∀ q, o ≠ .tbl q) : H2 b = some o := by
  obtain ⟨ps, hP, _⟩ := g
  rw [t.2 b (ne_of e hP (h ps))]
  exact e
theorem StAt.tab {Pt : Addr} {H H2 : Hp} {d c : Addr} {t : Int} (S : StAt H d c t) (g : GxR.TabG H Pt) (x : GxR.Tabbed Pt H H2) : StAt H2 d c t :=
  ⟨tab_at g x S.dict (fun _ z => nomatch z), let ⟨cs, e, r⟩ := S.cells; ⟨cs, tab_at g x e (fun _ z => nomatch z), r⟩, S.pos⟩
theorem _root_.GP.Prs.tab {Pt : Addr} {H H2 : Hp} {vs : List V} {ps : List (Int × Int)} (h : Prs H vs ps) (g : GxR.TabG H Pt) (x : GxR.Tabbed Pt H H2) : Prs H2 vs ps :=
  ⟨h.1, fun i p e => let ⟨a, e1, e2⟩ := h.2 i p e; ⟨a, e1, tab_at g x e2 (fun _ z => nomatch z)⟩⟩
theorem tabG_same {Pt : Addr} {H H' : Hp} (g : GxR.TabG H Pt) (s : Same H H') : GxR.TabG H' Pt := let ⟨ps, e, r⟩ := g; ⟨ps, s _ _ e, r⟩
theorem tabG_kp {Pt : Addr} {H H' : Hp} {d c : Addr} {t : Int} (g : GxR.TabG H Pt) (S : StAt H d c t) (k : Kp d c H H') : GxR.TabG H' Pt := let ⟨ps, e, r⟩ := g; ⟨ps, k.at S e (fun _ z => nomatch z) (fun _ z => nomatch z), r⟩
theorem tabG_upd {Pt : Addr} {H : Hp} {l : Addr} {o u : HO} (g : GxR.TabG H Pt) (e : H l = some o) (h : ∀ q, o ≠ .tbl q) : GxR.TabG (upd H l u) Pt := let ⟨ps, eP, r⟩ := g; ⟨ps, by rw [upd_ne (ne_of e eP (h ps)).symm]; exact eP, r⟩
theorem tabbed_free {Pt : Addr} {H H2 : Hp} {p : Addr} (g : GxR.TabG H Pt) (x : GxR.Tabbed Pt H H2) (h : H2 p = none) : H p = none := by
  obtain ⟨ps, e, _⟩ := x.1
  rw [← x.2 p (fun z => by rw [z, e] at h; cases h)]
  exact h

/-- a walk over what stood before a list was begun -/
theorem for_seqS {K : PySem.W.Frag} {a : Addr} {xs : List V} {g : TG} {tb : TS} {D : Ends} {σ : L2.St} {H0 H1 : Hp} (hq : Sq K H0 a xs) (s1 : Same H0 H1) (Pv : Nat → L2.St → Hp → Prop) (h0 : Pv 0 σ H1)
    (hl : ∀ i σ H', Pv i σ H' → Same H0 H')
    (turn : ∀ i x σ H, xs[i]? = some x → Pv i σ H → g x σ H fun σ2 H2 => tb { D with nx := Pv (i + 1), ct := Pv (i + 1), bk := D.nx } σ2 H2) (fin : ∀ σ H, Pv xs.length σ H → D.nx σ H) :
    ((∃ xs, SqL K H1 a xs) ∧ ForR (Itl K a) g tb D σ H1) ∨ ((∃ xs, SqT K H1 a xs) ∧ ForR (Itt K a) g tb D σ H1) := by
  rcases hq with h | h
  · exact .inl ⟨⟨xs, s1.seq h⟩, for_list (xs := xs) Pv h0 (fun i σ H' _ p => (hl i σ H' p).seq h) turn fin⟩
  · exact .inr ⟨⟨xs, same_t s1 h⟩, for_tup (xs := xs) Pv h0 (fun i σ H' _ p => same_t (hl i σ H' p) h) turn fin⟩

abbrev LcR (J : It) (g : TG) (tt : TT) (te : TE) (vs : List Nat) (σ : L2.St) (D : Addr) (Qd : Addr → Hp → Prop) (H1 : Hp) : Prop := ∃ W : Nat → Nat → Hp → Prop, (∃ m, W 0 m (upd H1 D (.lst []))) ∧ ∀ i m H, W i m H →
  (J.stop i H ∧ Qd D H) ∨ (J.go i H ∧ ∃ Nx : Hp → Prop, (∀ H', Nx H' → ∃ m', m' < m ∧ W (i + 1) m' H') ∧ ∀ x H', J.yld i H x H' → g x (wipe σ vs) H' fun σ2 H2 => wipe σ2 vs = wipe σ vs ∧ tt σ2 H2 fun b H3 => if b = true then
    te σ2 H3 fun y H4 => ∃ acc, H4 D = some (.lst acc) ∧ acc.length < sizeLine ∧ Nx (upd H4 D (.lst (acc ++ [y]))) else Nx H3)
theorem lc_seq {K : PySem.W.Frag} {a : Addr} {xs : List V} {g : TG} {tt : TT} {te : TE} {vs : List Nat} {σ : L2.St} {H1 : Hp} {Qd : Addr → Hp → Prop} (hq : Sq K H1 a xs) (Pv : Addr → Nat → Hp → Prop) (h0 : ∀ D, H1 D = none → Pv D 0 (upd H1 D (.lst [])))
    (still : ∀ D i H', H1 D = none → Pv D i H' → SqTo K H1 H' a xs)
    (turn : ∀ D i x H', H1 D = none → xs[i]? = some x → Pv D i H' → g x (wipe σ vs) H' fun σ2 H2 => wipe σ2 vs = wipe σ vs ∧ tt σ2 H2 fun b H3 =>
      if b = true then te σ2 H3 fun y H4 => ∃ acc, H4 D = some (.lst acc) ∧ acc.length < sizeLine ∧ Pv D (i + 1) (upd H4 D (.lst (acc ++ [y]))) else Pv D (i + 1) H3) (fin : ∀ D H', H1 D = none → Pv D xs.length H' → Qd D H') :
    ((∃ xs, SqL K H1 a xs) ∧ ∀ D, H1 D = none → LcR (Itl K a) g tt te vs σ D Qd H1) ∨ ((∃ xs, SqT K H1 a xs) ∧ ∀ D, H1 D = none → LcR (Itt K a) g tt te vs σ D Qd H1) := by
  rcases hq with h | h
  · exact .inl ⟨⟨xs, h⟩, fun D nD => lc_list (xs := xs) (Pv D) (h0 D nD) (fun i H' _ p => (still D i H' nD p).1 h) (fun i x H' e p => turn D i x H' nD e p) (fun H' p => fin D H' nD p)⟩
  · exact .inr ⟨⟨xs, h⟩, fun D nD => lc_tup (xs := xs) (Pv D) (h0 D nD) (fun i H' _ p => (still D i H' nD p).2 h) (fun i x H' e p => turn D i x H' nD e p) (fun H' p => fin D H' nD p)⟩

/-! ### sets by stretches: the mathematics -/
theorem inB_iff {n a b : Int} : inB n a b = true ↔ a ≤ n ∧ n ≤ b := by
  unfold inB
  rw [Bool.and_eq_true, decide_eq_true_eq (p := a ≤ n), decide_eq_true_eq]
theorem anyP_iff {n : Int} {ps : List (Int × Int)} : anyP (inB n) ps = true ↔ ∃ p ∈ ps, p.1 ≤ n ∧ n ≤ p.2 := by
  unfold anyP
  rw [List.any_eq_true]
  constructor
  · rintro ⟨p, hp, e⟩
    exact ⟨p, hp, inB_iff.mp e⟩
  · rintro ⟨p, hp, e⟩
    exact ⟨p, hp, inB_iff.mpr e⟩
/-- the same numbers -/
def Alike (ps qs : List (Int × Int)) : Prop := ∀ n : Int, (∃ p ∈ ps, p.1 ≤ n ∧ n ≤ p.2) ↔ ∃ p ∈ qs, p.1 ≤ n ∧ n ≤ p.2
theorem Alike.any {ps qs : List (Int × Int)} (h : Alike ps qs) (n : Int) : anyP (inB n) ps = anyP (inB n) qs := by
  rw [Bool.eq_iff_iff, anyP_iff, anyP_iff]
  exact h n
theorem Alike.symm {ps qs : List (Int × Int)} (h : Alike ps qs) : Alike qs ps := fun n => (h n).symm
theorem Alike.trans {ps qs rs : List (Int × Int)} (h : Alike ps qs) (h' : Alike qs rs) : Alike ps rs := fun n => (h n).trans (h' n)
theorem Alike.of_mem {ps qs : List (Int × Int)} (h : ∀ p, p ∈ ps ↔ p ∈ qs) : Alike ps qs := fun n => ⟨fun ⟨p, hp, e⟩ => ⟨p, (h p).mp hp, e⟩, fun ⟨p, hp, e⟩ => ⟨p, (h p).mpr hp, e⟩⟩
/-- of each set of numbers there is just one list -/
theorem ris_one : ∀ {rs rs' : List (Int × Int)} {lo lo' : Int}, Ris lo rs → Ris lo' rs' → Alike rs rs' → rs = rs'
  | [], [], _, _, _, _, _ => by rfl
  | [], q :: r, _, _, _, h', e => by
    obtain ⟨p, hp, _⟩ := (e q.1).mpr ⟨q, List.mem_cons_self .., Int.le_refl _, h'.2.1⟩
    exact nomatch hp
  | q :: r, [], _, _, h, _, e => by
    obtain ⟨p, hp, _⟩ := (e q.1).mp ⟨q, List.mem_cons_self .., Int.le_refl _, h.2.1⟩
    exact nomatch hp
  | (a, b) :: r, (a', b') :: r', lo, lo', h, h', e => by
    have hb : a ≤ b := h.2.1
    have hb' : a' ≤ b' := h'.2.1
    have tl : ∀ p ∈ r, b + 2 ≤ p.1 ∧ p.1 ≤ p.2 := Ris.le h.2.2
    have tl' : ∀ p ∈ r', b' + 2 ≤ p.1 ∧ p.1 ≤ p.2 := Ris.le h'.2.2
    have m1 : a' ≤ a := by
      obtain ⟨p, hp, e1, e2⟩ := (e a).mp ⟨(a, b), List.mem_cons_self .., Int.le_refl _, hb⟩
      rcases List.mem_cons.mp hp with z | z
      · rw [z] at e1; exact e1
      · have := tl' p z; omega
    have m2 : a ≤ a' := by
      obtain ⟨p, hp, e1, e2⟩ := (e a').mpr ⟨(a', b'), List.mem_cons_self .., Int.le_refl _, hb'⟩
      rcases List.mem_cons.mp hp with z | z
      · rw [z] at e1; exact e1
      · have := tl p z; omega
    have ea : a = a' := by omega
    have n1 : ¬ b < b' := fun lt => by
      obtain ⟨p, hp, e1, e2⟩ := (e (b + 1)).mpr ⟨(a', b'), List.mem_cons_self .., by show a' ≤ b + 1; omega, by show b + 1 ≤ b'; omega⟩
      rcases List.mem_cons.mp hp with z | z
      · rw [z] at e2; have : b + 1 ≤ b := e2; omega
      · have := tl p z; omega
    have n2 : ¬ b' < b := fun lt => by
      obtain ⟨p, hp, e1, e2⟩ := (e (b' + 1)).mp ⟨(a, b), List.mem_cons_self .., by show a ≤ b' + 1; omega, by show b' + 1 ≤ b; omega⟩
      rcases List.mem_cons.mp hp with z | z
      · rw [z] at e2; have : b' + 1 ≤ b' := e2; omega
      · have := tl' p z; omega
    have eb : b = b' := by omega
    subst ea eb
    have er : Alike r r' := fun n => by
      constructor
      · rintro ⟨p, hp, e1, e2⟩
        obtain ⟨p', hp', f1, f2⟩ := (e n).mp ⟨p, List.mem_cons_of_mem _ hp, e1, e2⟩
        rcases List.mem_cons.mp hp' with z | z
        · rw [z] at f2
          have : n ≤ b := f2
          have := tl p hp
          omega
        · exact ⟨p', z, f1, f2⟩
      · rintro ⟨p, hp, e1, e2⟩
        obtain ⟨p', hp', f1, f2⟩ := (e n).mpr ⟨p, List.mem_cons_of_mem _ hp, e1, e2⟩
        rcases List.mem_cons.mp hp' with z | z
        · rw [z] at f2
          have : n ≤ b := f2
          have := tl' p hp
          omega
        · exact ⟨p', z, f1, f2⟩
    rw [ris_one h.2.2 h'.2.2 er]
theorem Ris.front : ∀ {lo : Int} {rs : List (Int × Int)} {q : Int × Int}, Ris lo (rs ++ [q]) → Ris lo rs ∧ (∀ r ∈ rs, r.2 + 2 ≤ q.1) ∧ lo ≤ q.1 ∧ q.1 ≤ q.2
  | lo, [], q, h => ⟨True.intro, (fun _ z => nomatch z), h.1, h.2.1⟩
  | lo, r :: rs, q, h => by
    obtain ⟨h1, h2, h3, h4⟩ := Ris.front h.2.2
    refine ⟨⟨h.1, h.2.1, h1⟩, fun x hx => ?_, by have := h.1; have := h.2.1; omega, h4⟩
    rcases List.mem_cons.mp hx with z | z
    · rw [z]; exact h3
    · exact h2 x z
/-- what is told of pairs: a set of just their numbers -/
structure SetLike (ps rs : List (Int × Int)) : Prop where
  ris : ∃ lo, Ris lo rs
  same : Alike rs ps
  len : rs.length ≤ ps.length
/-- between two turns: the pairs so far, rising by their firsts, and what is merged of them -/
structure Mrg (pre rs : List (Int × Int)) : Prop extends SetLike pre rs where
  firsts : ∀ r ∈ rs, ∃ p ∈ pre, p.1 = r.1
theorem alike_snoc {pre : List (Int × Int)} {rs rs' : List (Int × Int)} {p : Int × Int} (h : Alike rs pre) (e : ∀ n, (∃ q ∈ rs', q.1 ≤ n ∧ n ≤ q.2) ↔ (∃ q ∈ rs, q.1 ≤ n ∧ n ≤ q.2) ∨ (p.1 ≤ n ∧ n ≤ p.2)) : Alike rs' (pre ++ [p]) := fun n => by
  rw [e n, h n]
  constructor
  · rintro (⟨q, hq, z⟩ | z)
    · exact ⟨q, List.mem_append_left _ hq, z⟩
    · exact ⟨p, List.mem_append_right _ (List.mem_singleton.mpr rfl), z⟩
  · rintro ⟨q, hq, z⟩
    rcases List.mem_append.mp hq with y | y
    · exact .inl ⟨q, y, z⟩
    · rw [List.mem_singleton.mp y] at z
      exact .inr z
theorem Mrg.join {pre rs : List (Int × Int)} {a b : Int} {p : Int × Int} (m : Mrg pre (rs ++ [(a, b)])) (hp : p.1 ≤ p.2) (ord : ∀ q ∈ pre, q.1 ≤ p.1) (near : p.1 ≤ b + 1) : Mrg (pre ++ [p]) (rs ++ [(a, if p.2 > b then p.2 else b)]) := by
  obtain ⟨lo, hr⟩ := m.ris
  obtain ⟨h1, h2, h3, h4⟩ := Ris.front hr
  obtain ⟨q, hq, eq⟩ := m.firsts (a, b) (List.mem_append_right _ (List.mem_singleton.mpr rfl))
  have hap : a ≤ p.1 := by have := ord q hq; have : q.1 = a := eq; omega
  have hab : a ≤ b := h4
  have big : a ≤ (if p.2 > b then p.2 else b) := by split <;> omega
  refine ⟨⟨⟨lo, h1.snoc h3 h2 big⟩, alike_snoc m.same fun n => ?_, ?_⟩, fun r hr => ?_⟩
  · constructor
    · rintro ⟨q, hq, z⟩
      rcases List.mem_append.mp hq with y | y
      · exact .inl ⟨q, List.mem_append_left _ y, z⟩
      · rw [List.mem_singleton.mp y] at z
        have z1 : a ≤ n := z.1
        have z2 : n ≤ (if p.2 > b then p.2 else b) := z.2
        by_cases c : n ≤ b
        · exact .inl ⟨(a, b), List.mem_append_right _ (List.mem_singleton.mpr rfl), z1, c⟩
        · refine .inr ⟨by omega, ?_⟩
          split at z2 <;> omega
    · rintro (⟨q, hq, z⟩ | z)
      · rcases List.mem_append.mp hq with y | y
        · exact ⟨q, List.mem_append_left _ y, z⟩
        · rw [List.mem_singleton.mp y] at z
          refine ⟨_, List.mem_append_right _ (List.mem_singleton.mpr rfl), z.1, ?_⟩
          have z2 : n ≤ b := z.2
          show n ≤ (if p.2 > b then p.2 else b)
          split <;> omega
      · refine ⟨_, List.mem_append_right _ (List.mem_singleton.mpr rfl), by show a ≤ n; omega, ?_⟩
        show n ≤ (if p.2 > b then p.2 else b)
        split <;> omega
  · have := m.len
    rw [List.length_append, List.length_append] at *
    show rs.length + 1 ≤ pre.length + 1
    have : rs.length + 1 ≤ pre.length := this
    omega
  · rcases List.mem_append.mp hr with y | y
    · obtain ⟨q, hq, e⟩ := m.firsts r (List.mem_append_left _ y)
      exact ⟨q, List.mem_append_left _ hq, e⟩
    · rw [List.mem_singleton.mp y]
      exact ⟨q, List.mem_append_left _ hq, eq⟩
theorem Mrg.new {pre rs : List (Int × Int)} {p : Int × Int} (m : Mrg pre rs) (hp : p.1 ≤ p.2) (ord : ∀ q ∈ pre, q.1 ≤ p.1) (far : ∀ r ∈ rs, r.2 + 2 ≤ p.1) : Mrg (pre ++ [p]) (rs ++ [p]) := by
  obtain ⟨lo, hr⟩ := m.ris
  refine ⟨⟨?_, alike_snoc m.same fun n => ?_, by have := m.len; rw [List.length_append, List.length_append]; show rs.length + 1 ≤ pre.length + 1; omega⟩, fun r hr => ?_⟩
  · cases rs with
    | nil => exact ⟨p.1, Int.le_refl _, hp, True.intro⟩
    | cons q r =>
      refine ⟨lo, hr.snoc ?_ far hp⟩
      have := hr.le q (List.mem_cons_self ..)
      have := far q (List.mem_cons_self ..)
      omega
  · constructor
    · rintro ⟨q, hq, z⟩
      rcases List.mem_append.mp hq with y | y
      · exact .inl ⟨q, y, z⟩
      · rw [List.mem_singleton.mp y] at z; exact .inr z
    · rintro (⟨q, hq, z⟩ | z)
      · exact ⟨q, List.mem_append_left _ hq, z⟩
      · exact ⟨p, List.mem_append_right _ (List.mem_singleton.mpr rfl), z⟩
  · rcases List.mem_append.mp hr with y | y
    · obtain ⟨q, hq, e⟩ := m.firsts r y
      exact ⟨q, List.mem_append_left _ hq, e⟩
    · rw [List.mem_singleton.mp y]
      exact ⟨p, List.mem_append_right _ (List.mem_singleton.mpr rfl), rfl⟩
theorem Mrg.nil : Mrg [] [] := ⟨⟨⟨0, True.intro⟩, fun _ => Iff.rfl, Nat.le_refl _⟩, fun _ z => nomatch z⟩

/-! ### sets put together: the mathematics -/
def InS (ps : List (Int × Int)) (n : Int) : Prop := ∃ p ∈ ps, p.1 ≤ n ∧ n ≤ p.2
theorem inS_nil {n : Int} : ¬ InS [] n := fun ⟨_, h, _⟩ => nomatch h
theorem inS_cons {p : Int × Int} {r : List (Int × Int)} {n : Int} : InS (p :: r) n ↔ (p.1 ≤ n ∧ n ≤ p.2) ∨ InS r n := by
  constructor
  · rintro ⟨q, hq, e⟩
    rcases List.mem_cons.mp hq with z | z
    · rw [z] at e; exact .inl e
    · exact .inr ⟨q, z, e⟩
  · rintro (e | ⟨q, hq, e⟩)
    · exact ⟨p, List.mem_cons_self .., e⟩
    · exact ⟨q, List.mem_cons_of_mem _ hq, e⟩
theorem inS_append {ps qs : List (Int × Int)} {n : Int} : InS (ps ++ qs) n ↔ InS ps n ∨ InS qs n := by
  constructor
  · rintro ⟨q, hq, e⟩
    rcases List.mem_append.mp hq with z | z
    · exact .inl ⟨q, z, e⟩
    · exact .inr ⟨q, z, e⟩
  · rintro (⟨q, hq, e⟩ | ⟨q, hq, e⟩)
    · exact ⟨q, List.mem_append_left _ hq, e⟩
    · exact ⟨q, List.mem_append_right _ hq, e⟩
theorem Ris.low {lo n : Int} {ps : List (Int × Int)} (h : Ris lo ps) (e : InS ps n) : lo ≤ n := by
  obtain ⟨p, hp, e1, e2⟩ := e
  have := h.le p hp
  omega
theorem Ris.mono : ∀ {lo lo' : Int} {ps : List (Int × Int)}, Ris lo ps → lo' ≤ lo → Ris lo' ps
  | _, _, [], _, _ => True.intro
  | _, _, _ :: _, h, e => ⟨Int.le_trans e h.1, h.2⟩
def mxI (i j : Int) : Int := if j > i then j else i
def mnI (i j : Int) : Int := if j < i then j else i
theorem mxI_le {i j n : Int} : mxI i j ≤ n ↔ i ≤ n ∧ j ≤ n := by unfold mxI; split <;> omega
theorem le_mxI {i j n : Int} : n ≤ mxI i j ↔ n ≤ i ∨ n ≤ j := by unfold mxI; split <;> omega
theorem le_mnI {i j n : Int} : n ≤ mnI i j ↔ n ≤ i ∧ n ≤ j := by unfold mnI; split <;> omega
theorem mnI_le {i j n : Int} : mnI i j ≤ n ↔ i ≤ n ∨ j ≤ n := by unfold mnI; split <;> omega
/-- going through both at once -/
def bothF : List (Int × Int) → List (Int × Int) → List (Int × Int)
  | [], _ => []
  | _ :: _, [] => []
  | p :: r, q :: s => (if mxI p.1 q.1 ≤ mnI p.2 q.2 then [(mxI p.1 q.1, mnI p.2 q.2)] else []) ++ (if p.2 < q.2 then bothF r (q :: s) else bothF (p :: r) s)
termination_by ps qs => ps.length + qs.length
theorem bothF_nil (ps : List (Int × Int)) : bothF ps [] = [] := by cases ps <;> rw [bothF]
theorem bothF_ris : ∀ {ps qs : List (Int × Int)} {lo lo' k : Int}, Ris lo ps → Ris lo' qs → (k ≤ lo ∨ k ≤ lo') → Ris k (bothF ps qs)
  | [], _, _, _, _, _, _, _ => by rw [bothF]; exact True.intro
  | _ :: _, [], _, _, _, _, _, _ => by rw [bothF]; exact True.intro
  | p :: r, q :: s, lo, lo', k, h, h', hk => by
    rw [bothF]
    have h1 := h.1
    have h2 := h.2.1
    have h1' := h'.1
    have h2' := h'.2.1
    by_cases c : mxI p.1 q.1 ≤ mnI p.2 q.2
    · rw [if_pos c]
      refine ⟨?_, c, ?_⟩
      · show k ≤ mxI p.1 q.1
        rw [le_mxI]
        omega
      · by_cases d : p.2 < q.2
        · rw [if_pos d]
          refine bothF_ris h.2.2 h' (.inl ?_)
          show mnI p.2 q.2 + 2 ≤ p.2 + 2
          have : mnI p.2 q.2 ≤ p.2 := mnI_le.mpr (.inl (Int.le_refl _))
          omega
        · rw [if_neg d]
          refine bothF_ris h h'.2.2 (.inr ?_)
          show mnI p.2 q.2 + 2 ≤ q.2 + 2
          have : mnI p.2 q.2 ≤ q.2 := mnI_le.mpr (.inr (Int.le_refl _))
          omega
    · rw [if_neg c, List.nil_append]
      by_cases d : p.2 < q.2
      · rw [if_pos d]
        refine bothF_ris h.2.2 h' ?_
        omega
      · rw [if_neg d]
        refine bothF_ris h h'.2.2 ?_
        omega
termination_by ps qs => ps.length + qs.length
theorem bothF_in {n : Int} : ∀ {ps qs : List (Int × Int)} {lo lo' : Int}, Ris lo ps → Ris lo' qs → (InS (bothF ps qs) n ↔ InS ps n ∧ InS qs n)
  | [], _, _, _, _, _ => by rw [bothF]; exact ⟨fun h => absurd h inS_nil, fun h => h.1⟩
  | _ :: _, [], _, _, _, _ => by rw [bothF]; exact ⟨fun h => absurd h inS_nil, fun h => h.2⟩
  | p :: r, q :: s, lo, lo', h, h' => by
    rw [bothF, inS_append, inS_cons, inS_cons]
    have e1 : InS (if mxI p.1 q.1 ≤ mnI p.2 q.2 then [(mxI p.1 q.1, mnI p.2 q.2)] else []) n ↔ (p.1 ≤ n ∧ n ≤ p.2) ∧ (q.1 ≤ n ∧ n ≤ q.2) := by
      by_cases c : mxI p.1 q.1 ≤ mnI p.2 q.2
      · rw [if_pos c, inS_cons]
        show ((mxI p.1 q.1 ≤ n ∧ n ≤ mnI p.2 q.2) ∨ InS [] n) ↔ _
        rw [mxI_le, le_mnI]
        constructor
        · rintro (z | z)
          · omega
          · exact absurd z inS_nil
        · intro z
          exact .inl (by omega)
      · rw [if_neg c]
        constructor
        · exact fun z => absurd z inS_nil
        · intro z
          refine absurd (Int.le_trans (mxI_le.mpr ⟨z.1.1, z.2.1⟩) (le_mnI.mpr ⟨z.1.2, z.2.2⟩)) c
    rw [e1]
    by_cases d : p.2 < q.2
    · rw [if_pos d, bothF_in h.2.2 h', inS_cons]
      have no : InS s n → ¬ n ≤ p.2 := fun z => by
        have := h'.2.2.low z
        omega
      constructor
      · rintro (⟨z1, z2⟩ | ⟨z1, z2⟩)
        · exact ⟨.inl z1, .inl z2⟩
        · exact ⟨.inr z1, z2⟩
      · rintro ⟨z1 | z1, z2 | z2⟩
        · exact .inl ⟨z1, z2⟩
        · exact absurd z1.2 (no z2)
        · exact .inr ⟨z1, .inl z2⟩
        · exact .inr ⟨z1, .inr z2⟩
    · rw [if_neg d, bothF_in h h'.2.2, inS_cons]
      have no : InS r n → ¬ n ≤ q.2 := fun z => by
        have := h.2.2.low z
        omega
      constructor
      · rintro (⟨z1, z2⟩ | ⟨z1, z2⟩)
        · exact ⟨.inl z1, .inl z2⟩
        · exact ⟨z1, .inr z2⟩
      · rintro ⟨z1 | z1, z2 | z2⟩
        · exact .inl ⟨z1, z2⟩
        · exact .inr ⟨.inl z1, z2⟩
        · exact absurd z2.2 (no z1)
        · exact .inr ⟨.inr z1, z2⟩
termination_by ps qs => ps.length + qs.length
/-- what lies between the stretches of a set -/
def gapsF (e : Int) : Int → List (Int × Int) → List (Int × Int)
  | st, [] => [(st, e)]
  | st, p :: r => (st, mnI (p.1 - 1) e) :: gapsF e (mxI st (p.2 + 1)) r
theorem gapsF_length (e : Int) : ∀ (qs : List (Int × Int)) (st : Int), (gapsF e st qs).length = qs.length + 1
  | [], _ => rfl
  | _ :: r, _ => by rw [gapsF, List.length_cons, gapsF_length e r, List.length_cons]
theorem gapsF_in {e n : Int} : ∀ {qs : List (Int × Int)} {lo st : Int}, Ris lo qs → (InS (gapsF e st qs) n ↔ (st ≤ n ∧ n ≤ e) ∧ ¬ InS qs n)
  | [], _, st, _ => by
    rw [gapsF, inS_cons]
    constructor
    · rintro (z | z)
      · exact ⟨z, inS_nil⟩
      · exact absurd z inS_nil
    · exact fun z => .inl z.1
  | p :: r, lo, st, h => by
    rw [gapsF, inS_cons, gapsF_in h.2.2, inS_cons]
    show ((st ≤ n ∧ n ≤ mnI (p.1 - 1) e) ∨ (mxI st (p.2 + 1) ≤ n ∧ n ≤ e) ∧ ¬ InS r n) ↔ _
    rw [le_mnI, mxI_le]
    have h2 := h.2.1
    have no : n ≤ p.2 + 1 → ¬ InS r n := fun z y => by
      have := h.2.2.low y
      omega
    constructor
    · rintro (z | ⟨z, y⟩)
      · refine ⟨by omega, ?_⟩
        rintro (x | x)
        · omega
        · exact no (by omega) x
      · refine ⟨by omega, ?_⟩
        rintro (x | x)
        · omega
        · exact y x
    · rintro ⟨z, y⟩
      by_cases c : n < p.1
      · exact .inl (by omega)
      · refine .inr ⟨?_, fun x => y (.inr x)⟩
        have : ¬ (p.1 ≤ n ∧ n ≤ p.2) := fun x => y (.inl x)
        omega
/-- a set of just the numbers of which pr holds -/
structure Told (pr : Int → Prop) (rs : List (Int × Int)) : Prop where
  ris : ∃ lo, Ris lo rs
  same : ∀ n, InS rs n ↔ pr n
theorem Told.one {pr pr' : Int → Prop} {rs rs' : List (Int × Int)} (h : Told pr rs) (h' : Told pr' rs') (e : ∀ n, pr n ↔ pr' n) : rs = rs' := by
  obtain ⟨lo, r⟩ := h.ris
  obtain ⟨lo', r'⟩ := h'.ris
  exact ris_one r r' fun n => (h.same n).trans ((e n).trans (h'.same n).symm)
theorem Told.of {lo : Int} {rs : List (Int × Int)} (h : Ris lo rs) : Told (InS rs) rs := ⟨⟨lo, h⟩, fun _ => Iff.rfl⟩
theorem SetLike.told {ps rs : List (Int × Int)} (h : SetLike ps rs) : Told (InS ps) rs := ⟨h.ris, h.same⟩
theorem Told.cong {pr pr' : Int → Prop} {rs : List (Int × Int)} (h : Told pr rs) (e : ∀ n, pr n ↔ pr' n) : Told pr' rs := ⟨h.ris, fun n => (h.same n).trans (e n)⟩
theorem Told.nneg {pr : Int → Prop} {rs : List (Int × Int)} (h : Told pr rs) (hn : ∀ n, pr n → 0 ≤ n) : Ris 0 rs := by
  obtain ⟨lo, r⟩ := h.ris
  cases rs with
  | nil => exact True.intro
  | cons p q => exact ⟨hn _ ((h.same _).mp (inS_cons.mpr (.inl ⟨Int.le_refl _, r.2.1⟩))), r.2⟩

theorem cut_back (xs : List V) (m : Nat) : cutV xs (some (m : Int)) none = xs.drop m := by
  unfold cutV
  rw [HT.sIx_none, HT.sIx_nat]
  by_cases h : m ≤ xs.length
  · rw [Nat.min_eq_left h]
    exact List.take_of_length_le (by rw [List.length_drop]; exact Nat.le_refl _)
  · rw [Nat.min_eq_right (by omega), Nat.sub_self, List.take_zero, List.drop_eq_nil_of_le (by omega)]
theorem _root_.GP.Prs.append {H : Hp} {us ws : List V} {ps qs : List (Int × Int)} (h : Prs H us ps) (h' : Prs H ws qs) : Prs H (us ++ ws) (ps ++ qs) := by
  refine ⟨by rw [List.length_append, List.length_append, h.1, h'.1], fun i p e => ?_⟩
  by_cases hi : i < ps.length
  · rw [List.getElem?_append_left hi] at e
    rw [List.getElem?_append_left (by rw [h.1]; exact hi)]
    exact h.2 i p e
  · rw [List.getElem?_append_right (by omega)] at e
    rw [List.getElem?_append_right (by rw [h.1]; omega), h.1]
    exact h'.2 _ p e
theorem _root_.GP.Prs.take {H : Hp} {us : List V} {ps : List (Int × Int)} (h : Prs H us ps) (n : Nat) : Prs H (us.take n) (ps.take n) := by
  refine ⟨by rw [List.length_take, List.length_take, h.1], fun i p e => ?_⟩
  rw [List.getElem?_take] at e ⊢
  split at e
  · rename_i hi
    rw [if_pos hi]
    exact h.2 i p e
  · cases e
theorem _root_.GP.Prs.drop {H : Hp} {us : List V} {ps : List (Int × Int)} (h : Prs H us ps) (n : Nat) : Prs H (us.drop n) (ps.drop n) := by
  refine ⟨by rw [List.length_drop, List.length_drop, h.1], fun i p e => ?_⟩
  rw [List.getElem?_drop] at e ⊢
  exact h.2 _ p e
theorem _root_.GP.Prs.reverse {H : Hp} {us : List V} {ps : List (Int × Int)} (h : Prs H us ps) : Prs H us.reverse ps.reverse := by
  refine ⟨by rw [List.length_reverse, List.length_reverse, h.1], fun i p e => ?_⟩
  have hi : i < ps.length := by
    have z := (List.getElem?_eq_some_iff.mp e).1
    rwa [List.length_reverse] at z
  rw [List.getElem?_reverse hi] at e
  rw [List.getElem?_reverse (by rw [h.1]; exact hi), h.1]
  exact h.2 _ p e

/-! ### set_of -/
/-- the pair that a tracked tuple holds -/
def pairOf (H : Hp) : V → Int × Int
  | .ref t => (match H t with
    | some (.tup [.int i, .int j]) => (i, j)
    | _ => (0, 0))
  | _ => (0, 0)
theorem pairOf_at {H : Hp} {t : Addr} {p : Int × Int} (e : H t = some (.tup [.int p.1, .int p.2])) : pairOf H (.ref t) = p := by
  show (match H t with | some (.tup [.int i, .int j]) => (i, j) | _ => (0, 0)) = p
  rw [e]
abbrev sSetOf : Stmt := topS 1
theorem scSetOf : FnScope ["pairs", "merged", "first", "last", "low", "high", "pair"] ["pairs"] (defScope sSetOf) := ⟨rfl, rfl, rfl, by decide +kernel, rfl, by decide +kernel, by decide +kernel⟩
def spSetOf (K : PySem.W.Frag) : Sp := fun vs H Q _ => ∃ (a : Addr) (us : List V) (ps : List (Int × Int)), vs = [.ref a] ∧ Sq K H a us ∧ Prs H us ps ∧ ps.length ≤ 900 ∧
  ∀ (l : Addr) (ws : List V) (rs : List (Int × Int)) H', H l = none → H' l = some (.lst ws) → Prs H' ws rs → SetLike ps rs → Same H H' → Q (.ref l) H'
section
variable {K : PySem.W.Frag} {mg : Str → Option Value} {P : Program} {w : World} {base : Heap}
theorem ok_setof {f : Addr} {fd : FuncData} {k : Nat} (F : Fun K "set_of" "set_of" sSetOf f fd) (mso : mg "sorted" = none) (mx : mg "max" = none) : FnOk P w K mg base CX0 (k + 1) f fd ["pairs"] (spSetOf K) := by
  refine F.ok scSetOf (fun vs H Q E h => ?_) (fun cdv A outer s H vs Q E hr h => ?_)
  · obtain ⟨a, us, ps, rfl, _⟩ := h
    rfl
  · obtain ⟨a, us, ps, rfl, hq, hp, hz, q⟩ := h
    refine ⟨_, pss_cons (ps_set (i := 1) scSetOf.nd rfl (.inl rfl) (pe_lst pa_nil))
      (pss_cons (ps_for PassesOwn.never rfl (pi_list (pe_callB cr_sortedPO (by rfl) mso (by decide +kernel) (pa_cons (pe_lc (own := [("pair", 6)]) (g := gName 6) (tt := tTest (tOp (rI0 fun i j => .bl (decide (i ≤ j))) (tOp (rIxT K) (tVar 6) (tC (.int 0))) (tOp (rIxT K) (tVar 6) (tC (.int 1))))) rfl scSetOf.nd (pi_seq (pv 0))
          (blkOk_by (own := [("pair", 6)]) (N := ["pairs", "merged", "first", "last", "low", "high", "pair"]) (sc := defScope sSetOf) (by decide +kernel))
          (fun _ _ _ _ _ => pg_name (i := 6) scSetOf.nd rfl (.inl rfl)) (fun _ _ _ _ _ => pts_one (pt_cmpR op_le (pe_ix ix_tup (pv 6) pe_int (fun _ _ => rfl)) (pe_ix ix_tup (pv 6) pe_int (fun _ _ => rfl)) (nomark _))) (fun _ _ _ _ _ => pv 6)) pa_nil)))
        (pg_tup rfl (pgs_cons (pg_name (i := 2) scSetOf.nd rfl (.inl rfl)) (pgs_cons (pg_name (i := 3) scSetOf.nd rfl (.inl rfl)) pgs_nil)))
        (pss_one (ps_if (PW.pt (pw_and (pt_truth (pv 1) (by intro _; rfl)) (pw_and1 (pt_cmpR op_le (pv 2) (pe_op op_add (pe_ix ix_tup (pe_ix ix_list (pv 1) (pe_un un_neg pe_int) (fun _ _ => rfl)) pe_int (fun _ _ => rfl)) pe_int) (nomark _)))))
          (pss_cons (ps_asg (pe_ix ix_list (pv 1) (pe_un un_neg pe_int) (fun _ _ => rfl)) (pg_tup rfl (pgs_cons (pg_name (i := 4) scSetOf.nd rfl (.inl rfl)) (pgs_cons (pg_name (i := 5) scSetOf.nd rfl (.inl rfl)) pgs_nil))))
          (pss_one (ps_asg (pe_tup (pa_cons (pv 4) (pa_cons (pe_callB (call_max2 rfl) (by rfl) mx (by decide +kernel) (pa_cons (pv 5) (pa_cons (pv 3) pa_nil))) pa_nil))) (pg_sub (pv 1) (pe_un un_neg pe_int) set_list))))
          (pss_one (ps_expr (pe_bm PySem.F.plainAttrs_list PySem.F.slot_list_append PySem.F.type_list_append mt_append (pv 1) (pa_cons (pe_tup (pa_cons (pv 2) (pa_cons (pv 3) pa_nil))) pa_nil)))))))
      (pss_one (ps_ret (pv 1)))), ?_⟩
    -- merged = []
    refine ⟨Nat.zero_le _, fun mg' nm => ?_⟩
    have s1 := same_upd (o := .lst []) nm
    have em1 : upd H mg' (.lst []) mg' = some (.lst []) := upd_same
    revert s1 em1
    generalize upd H mg' (.lst []) = H1
    intro s1 em1
    -- [pair for pair in pairs if ..]
    refine ⟨.ref a, rfl, a, rfl, lc_seq (xs := us) (hq.same s1) (fun D i H' => Same H1 H' ∧ ∃ ys, H' D = some (.lst ys) ∧ Prs H' ys ((ps.take i).filter fun p => decide (p.1 ≤ p.2)) ∧ ys.length ≤ i) (fun D nD => ⟨same_upd nD, [], upd_same, Prs.nil, Nat.le_refl _⟩)
      (fun D i H' nD hP => SqTo.same hP.1) (fun D i x H' nD hx hP => ?_) (fun D H2 nD hP => ?_)⟩
    · obtain ⟨sm, ys, eD, hys, hyl⟩ := hP
      obtain ⟨p, T, ep, rfl, eT⟩ := prs_at hp hx
      have hi : i < us.length := (List.getElem?_eq_some_iff.mp hx).1
      rw [hp.1] at hi
      have eT' := sm _ _ (s1 _ _ eT)
      refine ⟨rfl, _, rfl, T, _, 0, .int p.1, rfl, rfl, .inl (.inl eT'), atI_nat (j := 0) rfl, _, rfl, T, _, 1, .int p.2, rfl, rfl, .inl (.inl eT'), atI_nat (j := 1) rfl, p.1, p.2, rfl, rfl, _, rfl, ?_⟩
      have etake : (ps.take (i + 1)).filter (fun p => decide (p.1 ≤ p.2)) = (ps.take i).filter (fun p => decide (p.1 ≤ p.2)) ++ (if p.1 ≤ p.2 then [p] else []) := by
        rw [List.take_add_one, ep, List.filter_append]
        by_cases c : p.1 ≤ p.2
        · rw [if_pos c]; simp [c]
        · rw [if_neg c]; simp [c]
      refine ite2 (fun c => ?_) (fun c => ?_)
      · have c' := of_decide_eq_true c
        refine ⟨_, rfl, ys, eD, small1000 (by omega), fun b o e => ?_, _, upd_same, ?_, by rw [List.length_append]; show ys.length + 1 ≤ i + 1; omega⟩
        · rw [upd_ne (ne_of_none e nD)]
          exact sm b o e
        · rw [etake, if_pos c']
          exact (hys.snoc eT').upd_lst eD
      · have c' : ¬ p.1 ≤ p.2 := fun z => c (decide_eq_true z)
        refine ⟨sm, ys, eD, ?_, by omega⟩
        rw [etake, if_neg c', List.append_nil]
        exact hys
    · -- sorted
      obtain ⟨sm, ys, eD, hys, hyl⟩ := hP
      rw [hp.1, List.take_length] at hys
      refine ⟨D, ys, pairOf H2, rfl, SqL.of eD, fun x hx => ?_, fun zs g srt stb ng => ?_⟩
      · obtain ⟨i, hi, e⟩ := List.getElem_of_mem hx
        obtain ⟨p, T, _, rfl, eT⟩ := prs_at hys (by rw [List.getElem?_eq_getElem hi, e])
        exact ⟨T, rfl, by rw [pairOf_at eT]; exact eT⟩
      have sg := same_upd (o := .lst zs) ng
      have eg : upd H2 g (.lst zs) g = some (.lst zs) := upd_same
      have s3 : Same H (upd H2 g (.lst zs)) := (s1.trans sm).trans sg
      have em3 := sg _ _ (sm _ _ em1)
      -- the pairs of zs
      have each : ∀ x ∈ zs, ∃ T, x = .ref T ∧ H2 T = some (.tup [.int (pairOf H2 x).1, .int (pairOf H2 x).2]) := fun x hx => by
        obtain ⟨i, hi, e⟩ := List.getElem_of_mem (stb.perm.mem_iff.mp hx)
        obtain ⟨p, T, _, rfl, eT⟩ := prs_at hys (by rw [List.getElem?_eq_getElem hi, e])
        exact ⟨T, rfl, by rw [pairOf_at eT]; exact eT⟩
      have hzs : Prs H2 zs (zs.map (pairOf H2)) := ⟨by rw [List.length_map], fun i p e => by
        rw [List.getElem?_map] at e
        cases h : zs[i]? with
        | none => rw [h] at e; cases e
        | some x =>
          rw [h] at e
          cases e
          obtain ⟨T, rfl, eT⟩ := each x (List.mem_of_getElem? h)
          exact ⟨T, rfl, eT⟩⟩
      have hmap : ys.map (pairOf H2) = ps.filter fun p => decide (p.1 ≤ p.2) := by
        refine List.ext_getElem? fun i => ?_
        rw [List.getElem?_map]
        cases h : ys[i]? with
        | none =>
          have : (ps.filter fun p => decide (p.1 ≤ p.2))[i]? = none := by
            rw [List.getElem?_eq_none_iff] at h ⊢
            rw [← hys.1]
            exact h
          rw [this]
          rfl
        | some x =>
          obtain ⟨p, T, ep, rfl, eT⟩ := prs_at hys h
          rw [ep]
          show some (pairOf H2 (.ref T)) = some p
          rw [pairOf_at eT]
      have hperm : (zs.map (pairOf H2)).Perm (ps.filter fun p => decide (p.1 ≤ p.2)) := hmap ▸ stb.perm.map (pairOf H2)
      have hle : ∀ p ∈ zs.map (pairOf H2), p.1 ≤ p.2 := fun p hp' => by
        have := hperm.mem_iff.mp hp'
        exact of_decide_eq_true (List.mem_filter.mp this).2
      have hord : (zs.map (pairOf H2)).Pairwise fun x y => x.1 ≤ y.1 := by
        rw [List.pairwise_map]
        refine srt.imp fun {x y} h => ?_
        have := SrtO.lexB_no.mp h
        omega
      have hzl : zs.length ≤ 900 := by
        rw [stb.perm.length_eq, hys.1]
        exact Nat.le_trans (List.length_filter_le _ _) hz
      revert hzs hperm hle hord
      generalize zs.map (pairOf H2) = qs
      intro hzs hperm hle hord
      have hzs3 := hzs.same sg
      revert eg s3 em3 hzs3
      generalize upd H2 g (.lst zs) = H3
      intro eg s3 em3 hzs3
      have ngH : H g = none := (s1.trans sm).free ng
      have nmg : mg' ≠ g := ne_of_none (sm _ _ em1) ng
      -- the merging
      refine ⟨g, rfl, ⟨_, SqL.of eg⟩, for_list (xs := zs) (fun i σ H4 => ∃ (ms : List V) (rs : List (Int × Int)) (y2 y3 y4 y5 y6 : Option V), σ = [some (.ref a), some (.ref mg'), y2, y3, y4, y5, y6] ∧ Same H H4 ∧ H4 g = some (.lst zs) ∧ Prs H4 zs qs ∧ H4 mg' = some (.lst ms) ∧ Prs H4 ms rs ∧ Mrg (qs.take i) rs)
        ⟨[], [], _, _, _, _, _, rfl, s3, eg, hzs3, em3, Prs.nil, Mrg.nil⟩ (fun i σ H4 _ hP => ?_) (fun i x σ H4 hx hP => ?_) (fun σ H4 hP => ?_)⟩
      · obtain ⟨_, _, _, _, _, _, _, rfl, _, e, _⟩ := hP
        exact SqL.of e
      · obtain ⟨ms, rs, y2, y3, y4, y5, y6, rfl, sm4, eg4, hz4, em4, hms, m⟩ := hP
        obtain ⟨p, T, ep, rfl, eT⟩ := prs_at hz4 hx
        have hi : i < qs.length := (List.getElem?_eq_some_iff.mp ep).1
        have hp12 : p.1 ≤ p.2 := hle p (List.mem_of_getElem? ep)
        have ord : ∀ q ∈ qs.take i, q.1 ≤ p.1 := fun q hq' => by
          obtain ⟨j, hj, e⟩ := List.getElem_of_mem hq'
          rw [List.length_take] at hj
          rw [List.getElem_take] at e
          obtain ⟨_, e2⟩ := List.getElem?_eq_some_iff.mp ep
          rw [← e, ← e2]
          exact List.pairwise_iff_getElem.mp hord j i (by omega) hi (by omega)
        have etake : qs.take (i + 1) = qs.take i ++ [p] := by rw [List.take_add_one, ep]; rfl
        have hmsl : ms.length ≤ 900 := by
          have := m.len
          rw [List.length_take] at this
          have := hzs.1
          rw [hms.1]
          omega
        refine ⟨T, _, rfl, .inl (.inl eT), rfl, _, _, rfl, _, _, rfl, rfl, ?_⟩
        -- what a new tuple and a change of merged leave
        have grow : ∀ (T2 : Addr) (p2 : Int × Int) (ms2 : List V) (rs2 : List (Int × Int)), H4 T2 = none → Prs (upd H4 T2 (.tup [.int p2.1, .int p2.2])) ms2 rs2 →
            Same H (upd (upd H4 T2 (.tup [.int p2.1, .int p2.2])) mg' (.lst ms2)) ∧ upd (upd H4 T2 (.tup [.int p2.1, .int p2.2])) mg' (.lst ms2) g = some (.lst zs) ∧ Prs (upd (upd H4 T2 (.tup [.int p2.1, .int p2.2])) mg' (.lst ms2)) zs qs ∧ upd (upd H4 T2 (.tup [.int p2.1, .int p2.2])) mg' (.lst ms2) mg' = some (.lst ms2) ∧ Prs (upd (upd H4 T2 (.tup [.int p2.1, .int p2.2])) mg' (.lst ms2)) ms2 rs2 := by
          intro T2 p2 ms2 rs2 n2 h2
          have st := same_upd (o := .tup [.int p2.1, .int p2.2]) n2
          have em5 := st _ _ em4
          refine ⟨fun b o e => ?_, ?_, (hz4.same st).upd_lst em5, upd_same, h2.upd_lst em5⟩
          · rw [upd_ne (ne_of_none e nm)]
            exact st _ _ (sm4 _ _ e)
          · rw [upd_ne nmg.symm]
            exact st _ _ eg4
        -- append
        have app : (∀ r ∈ rs, r.2 + 2 ≤ p.1) → (tDrop (tBM K "list" rAppend (tVar 1) (tCons (tTup (tCons (tVar 2) (tCons (tVar 3) tNil))) tNil))) { nx := fun σ H4 => ∃ (ms : List V) (rs : List (Int × Int)) (y2 y3 y4 y5 y6 : Option V), σ = [some (.ref a), some (.ref mg'), y2, y3, y4, y5, y6] ∧ Same H H4 ∧ H4 g = some (.lst zs) ∧ Prs H4 zs qs ∧ H4 mg' = some (.lst ms) ∧ Prs H4 ms rs ∧ Mrg (qs.take (i + 1)) rs, rt := fun _ _ => False } [some (.ref a), some (.ref mg'), some (.int p.1), some (.int p.2), y4, y5, y6] H4 := by
          intro far
          refine ⟨.ref mg', rfl, .inl ⟨rfl, _, SqL.of em4⟩, _, rfl, _, rfl, (by show 2 ≤ sizeLine; decide), fun T2 n2 => ?_⟩
          have st := same_upd (o := .tup [.int p.1, .int p.2]) n2
          refine ⟨mg', _, _, rfl, rfl, st _ _ em4, small1000 (by omega), ?_⟩
          obtain ⟨g1, g2, g3, g4, g5⟩ := grow T2 p (ms ++ [.ref T2]) (rs ++ [p]) n2 ((hms.same st).snoc upd_same)
          exact ⟨_, _, _, _, _, _, _, rfl, g1, g2, g3, g4, g5, by rw [etake]; exact m.new hp12 ord far⟩
        rcases snoc_cases rs with e0 | ⟨rs', ⟨lo, hi'⟩, e0⟩
        · have e1 : ms = [] := List.eq_nil_of_length_eq_zero (by rw [hms.1, e0]; rfl)
          have em0 : H4 mg' = some (.lst []) := by rw [em4, e1]
          refine ⟨.ref mg', rfl, false, .inl ⟨[], SqL.of em0, rfl⟩, iteF (iteF ?_)⟩
          exact app (by rw [e0]; exact fun _ z => nomatch z)
        · subst e0
          obtain ⟨ms', T0, rfl, eT0, hms'⟩ := hms.last
          refine ⟨.ref mg', rfl, true, .inl ⟨_, SqL.of em4, by simp⟩, iteT ?_⟩
          refine ⟨_, rfl, .ref mg', rfl, 1, rfl, mg', _, -1, .ref T0, rfl, rfl, SqL.of em4, atI_last _ _, T0, _, 1, .int hi', rfl, rfl, .inl (.inl eT0), atI_nat (j := 1) rfl, hi', 1, rfl, rfl, p.1, _, rfl, rfl, _, rfl, ite2 (fun c => ?_) (fun c => ?_)⟩
          · have c' := of_decide_eq_true c
            refine ⟨.ref mg', rfl, 1, rfl, mg', _, -1, .ref T0, rfl, rfl, SqL.of em4, atI_last _ _, T0, _, rfl, .inl (.inl eT0), rfl, _, _, rfl, _, _, rfl, rfl, ?_⟩
            refine ⟨_, rfl, _, rfl, _, rfl, hi', p.2, rfl, (by show 2 ≤ sizeLine; decide), fun T2 n2 => ?_⟩
            have st := same_upd (o := .tup [.int lo, .int (if p.2 > hi' then p.2 else hi')]) n2
            have ei : ixN (ms' ++ [V.ref T0]).length (-1) = some ms'.length := by
              unfold ixN
              rw [if_neg (by decide), List.length_append, if_pos (by show -((ms'.length + 1 : Nat) : Int) ≤ -1; omega)]
              show some ((-1 : Int) + ((ms'.length + 1 : Nat) : Int)).toNat = _
              congr 1
              omega
            refine ⟨.ref mg', rfl, 1, rfl, mg', _, -1, ms'.length, rfl, rfl, st _ _ em4, ei, ?_⟩
            have es : (ms' ++ [V.ref T0]).set ms'.length (.ref T2) = ms' ++ [.ref T2] := by simp
            rw [es]
            obtain ⟨g1, g2, g3, g4, g5⟩ := grow T2 (lo, if p.2 > hi' then p.2 else hi') (ms' ++ [.ref T2]) (rs' ++ [(lo, if p.2 > hi' then p.2 else hi')]) n2 ((hms'.same st).snoc upd_same)
            exact ⟨_, _, _, _, _, _, _, rfl, g1, g2, g3, g4, g5, by rw [etake]; exact m.join hp12 ord c'⟩
          · have c' : ¬ p.1 ≤ hi' + 1 := fun z => c (decide_eq_true z)
            refine app fun r hr' => ?_
            obtain ⟨lo', hR⟩ := m.ris
            obtain ⟨_, h2, _, h4⟩ := Ris.front hR
            have h4' : lo ≤ hi' := h4
            rcases List.mem_append.mp hr' with y | y
            · have : r.2 + 2 ≤ lo := h2 r y
              omega
            · rw [List.mem_singleton.mp y]
              show hi' + 2 ≤ p.1
              omega
      · obtain ⟨ms, rs, y2, y3, y4, y5, y6, rfl, sm4, eg4, hz4, em4, hms, m⟩ := hP
        rw [hzs.1, List.take_length] at m
        refine ⟨_, rfl, q mg' ms rs H4 nm em4 hms ⟨m.ris, m.same.trans fun n => ?_, Nat.le_trans m.len (Nat.le_trans (Nat.le_of_eq hperm.length_eq) (List.length_filter_le _ _))⟩ sm4⟩
        constructor
        · rintro ⟨r, hr', e⟩
          exact ⟨r, (List.mem_filter.mp (hperm.mem_iff.mp hr')).1, e⟩
        · rintro ⟨r, hr', e⟩
          exact ⟨r, hperm.mem_iff.mpr (List.mem_filter.mpr ⟨hr', decide_eq_true (by omega)⟩), e⟩
end

def RetS (H : Hp) (pr : Int → Prop) (m : Nat) (Q : V → Hp → Prop) : Prop := ∀ (l : Addr) (ws : List V) (rs : List (Int × Int)) H', H l = none → H' l = some (.lst ws) → Prs H' ws rs → Told pr rs → rs.length ≤ m → Same H H' → Q (.ref l) H'

/-! ### what stands where: pairs in a list or a tuple -/
def PrA (K : PySem.W.Frag) (H : Hp) (a : Addr) (ps : List (Int × Int)) : Prop := ∃ us, Sq K H a us ∧ Prs H us ps
def LsA (H : Hp) (a : Addr) (ps : List (Int × Int)) : Prop := ∃ us, H a = some (.lst us) ∧ Prs H us ps
theorem LsA.pr {K : PySem.W.Frag} {H : Hp} {a : Addr} {ps : List (Int × Int)} (h : LsA H a ps) : PrA K H a ps := let ⟨us, e, p⟩ := h; ⟨us, Sq.list e, p⟩
theorem LsA.same {H H' : Hp} {a : Addr} {ps : List (Int × Int)} (h : LsA H a ps) (s : Same H H') : LsA H' a ps := let ⟨us, e, p⟩ := h; ⟨us, s _ _ e, p.same s⟩
theorem PrA.same {K : PySem.W.Frag} {H H' : Hp} {a : Addr} {ps : List (Int × Int)} (h : PrA K H a ps) (s : Same H H') : PrA K H' a ps := let ⟨us, e, p⟩ := h; ⟨us, e.same s, p.same s⟩
theorem LsA.nil {H : Hp} {a : Addr} (e : H a = some (.lst [])) : LsA H a [] := ⟨[], e, Prs.nil⟩
theorem LsA.dp {K : PySem.W.Frag} {H : Hp} {a : Addr} {ps : List (Int × Int)} (h : LsA H a ps) : Dp K H (.ref a) (.list (ps.map pairD)) := let ⟨_, e, p⟩ := h; .lst (SqL.of e) (dp_prs p)
/-- a told set: a new list -/
def TellS (pr : Int → Prop) (m : Nat) (H : Hp) (Q : VK) : Prop := ∀ l rs H', H l = none → LsA H' l rs → Told pr rs → rs.length ≤ m → Same H H' → Q (.ref l) H'
/-! ### both_of -/
abbrev sBoth : Stmt := topS 2
theorem scBoth : FnScope ["one", "other", "shared", "at", "to", "first", "last"] ["one", "other"] (defScope sBoth) := ⟨rfl, rfl, rfl, by decide +kernel, rfl, by decide +kernel, by decide +kernel⟩
def spBoth (K : PySem.W.Frag) : Sp := fun vs H Q _ => ∃ (a b : Addr) (ps qs : List (Int × Int)), vs = [.ref a, .ref b] ∧ PrA K H a ps ∧ PrA K H b qs ∧ (∃ lo, Ris lo ps) ∧ (∃ lo, Ris lo qs) ∧ ps.length + qs.length ≤ 900 ∧ TellS (fun n => InS ps n ∧ InS qs n) (ps.length + qs.length) H Q
/-- between two turns -/
def BothW (H : Hp) (a b sh : Addr) (ps qs : List (Int × Int)) (m : Nat) (σ : L2.St) (H1 : Hp) : Prop := ∃ (i j : Nat) (ms : List V) (rs : List (Int × Int)) (y5 y6 : Option V), σ = [some (.ref a), some (.ref b), some (.ref sh), some (.int i), some (.int j), y5, y6] ∧ m = (ps.length - i) + (qs.length - j) ∧ i ≤ ps.length ∧ j ≤ qs.length ∧ Same H H1 ∧
  H1 sh = some (.lst ms) ∧ Prs H1 ms rs ∧ rs.length ≤ i + j ∧ rs ++ bothF (ps.drop i) (qs.drop j) = bothF ps qs
section
variable {K : PySem.W.Frag} {mg : Str → Option Value} {P : Program} {w : World} {base : Heap}
theorem ok_both {f : Addr} {fd : FuncData} {k : Nat} (F : Fun K "both_of" "both_of" sBoth f fd) (ml : mg "len" = none) (mx : mg "max" = none) (mn : mg "min" = none) : FnOk P w K mg base CX0 (k + 1) f fd ["one", "other"] (spBoth K) := by
  refine F.ok scBoth (fun vs H Q E h => ?_) (fun cdv A outer s H vs Q E hr h => ?_)
  · obtain ⟨a, b, ps, qs, rfl, _⟩ := h
    rfl
  · obtain ⟨a, b, ps, qs, rfl, ⟨us, ha, hps⟩, ⟨ws, hb, hqs⟩, ⟨lo, hr1⟩, ⟨lo', hr2⟩, hz, q⟩ := h
    refine ⟨_, pss_cons (ps_set (i := 2) scBoth.nd rfl (.inl rfl) (pe_lst pa_nil))
      (pss_cons (ps_set (i := 3) scBoth.nd rfl (.inl rfl) pe_int)
      (pss_cons (ps_set (i := 4) scBoth.nd rfl (.inl rfl) pe_int)
      (pss_cons (ps_while PassesOwn.never (PW.pt (pw_and (pt_cmpR op_lt (pv 3) (pe_callB call_len_seq (by rfl) ml PySem.boot_len (pa_cons (pv 0) pa_nil)) (nomark _)) (pw_and1 (pt_cmpR op_lt (pv 4) (pe_callB call_len_seq (by rfl) ml PySem.boot_len (pa_cons (pv 1) pa_nil)) (nomark _)))))
        (pss_cons (ps_set (i := 5) scBoth.nd rfl (.inl rfl) (pe_callB (call_max2 rfl) (by rfl) mx (by decide +kernel) (pa_cons (pe_ix ix_tup (pe_ix ix_seq (pv 0) (pv 3) (fun _ _ => rfl)) pe_int (fun _ _ => rfl)) (pa_cons (pe_ix ix_tup (pe_ix ix_seq (pv 1) (pv 4) (fun _ _ => rfl)) pe_int (fun _ _ => rfl)) pa_nil))))
        (pss_cons (ps_set (i := 6) scBoth.nd rfl (.inl rfl) (pe_callB (call_min2 rfl) (by rfl) mn (by decide +kernel) (pa_cons (pe_ix ix_tup (pe_ix ix_seq (pv 0) (pv 3) (fun _ _ => rfl)) pe_int (fun _ _ => rfl)) (pa_cons (pe_ix ix_tup (pe_ix ix_seq (pv 1) (pv 4) (fun _ _ => rfl)) pe_int (fun _ _ => rfl)) pa_nil))))
        (Evl.pss_cut (ps_if (pt_cmpR op_le (pv 5) (pv 6) (nomark _)) (pss_one (ps_expr (pe_bm PySem.F.plainAttrs_list PySem.F.slot_list_append PySem.F.type_list_append mt_append (pv 2) (pa_cons (pe_tup (pa_cons (pv 5) (pa_cons (pv 6) pa_nil))) pa_nil)))) pss_nil)
        (pss_one (ps_if (pt_cmpR op_lt (pe_ix ix_tup (pe_ix ix_seq (pv 0) (pv 3) (fun _ _ => rfl)) pe_int (fun _ _ => rfl)) (pe_ix ix_tup (pe_ix ix_seq (pv 1) (pv 4) (fun _ _ => rfl)) pe_int (fun _ _ => rfl)) (nomark _))
          (pss_one (ps_aug (i := 3) scBoth.nd rfl (.inl rfl) pe_int ip_add)) (pss_one (ps_aug (i := 4) scBoth.nd rfl (.inl rfl) pe_int ip_add))))))))
      (pss_one (ps_ret (pv 2)))))), ?_⟩
    refine ⟨Nat.zero_le _, fun sh nsh => ?_⟩
    have s0 := same_upd (o := .lst []) nsh
    have hl1 := hps.1
    have hl2 := hqs.1
    refine ⟨BothW H a b sh ps qs, ⟨_, 0, 0, [], [], none, none, rfl, rfl, Nat.zero_le _, Nat.zero_le _, s0, upd_same, Prs.nil, Nat.le_refl _, rfl⟩, fun m σ H1 hW => ?_⟩
    obtain ⟨i, j, ms, rs, y5, y6, rfl, rfl, hi, hj, sm, esh, hms, hrl, hbo⟩ := hW
    have ha1 := ha.same sm
    have hb1 := hb.same sm
    -- the end: nothing is left of one
    have fin : bothF (ps.drop i) (qs.drop j) = [] → Q (.ref sh) H1 := by
      intro e
      rw [e, List.append_nil] at hbo
      subst hbo
      exact q sh (bothF ps qs) H1 nsh ⟨ms, esh, hms⟩ ⟨⟨lo, bothF_ris hr1 hr2 (.inl (Int.le_refl _))⟩, fun n => bothF_in hr1 hr2⟩ (by omega) sm
    refine ⟨_, rfl, _, rfl, a, us, rfl, ha1, (i : Int), (us.length : Int), rfl, rfl, _, rfl, ite2 (fun c1 => ?_) (fun c1 => ?_)⟩
    · have c1' := of_decide_eq_true c1
      refine ⟨_, rfl, _, rfl, b, ws, rfl, hb1, (j : Int), (ws.length : Int), rfl, rfl, _, rfl, ite2 (fun c2 => ?_) (fun c2 => ?_)⟩
      · have c2' := of_decide_eq_true c2
        have hi' : i < ps.length := by omega
        have hj' : j < qs.length := by omega
        obtain ⟨T1, g1, e1⟩ := hps.2 i ps[i] (List.getElem?_eq_getElem hi')
        obtain ⟨T2, g2, e2⟩ := hqs.2 j qs[j] (List.getElem?_eq_getElem hj')
        have ed1 := drop_at (List.getElem?_eq_getElem hi')
        have ed2 := drop_at (List.getElem?_eq_getElem hj')
        revert e1 e2 ed1 ed2
        generalize ps[i] = p
        generalize qs[j] = r
        intro e1 e2 ed1 ed2
        have f1 := sm _ _ e1
        have f2 := sm _ _ e2
        rw [ed1, ed2, bothF] at hbo
        refine ⟨fun σ' H' => ∃ m', m' < (ps.length - i) + (qs.length - j) ∧ BothW H a b sh ps qs m' σ' H', fun σ' H' h => h, ?_⟩
        -- first, last
        refine ⟨_, rfl, _, rfl, a, us, i, .ref T1, rfl, rfl, ha1, atI_nat g1, T1, _, 0, .int p.1, rfl, rfl, .inl (.inl f1), atI_nat (j := 0) rfl, _, rfl, _, rfl, b, ws, j, .ref T2, rfl, rfl, hb1, atI_nat g2, T2, _, 0, .int r.1, rfl, rfl, .inl (.inl f2), atI_nat (j := 0) rfl, p.1, r.1, rfl, ?_⟩
        refine ⟨_, rfl, _, rfl, a, us, i, .ref T1, rfl, rfl, ha1, atI_nat g1, T1, _, 1, .int p.2, rfl, rfl, .inl (.inl f1), atI_nat (j := 1) rfl, _, rfl, _, rfl, b, ws, j, .ref T2, rfl, rfl, hb1, atI_nat g2, T2, _, 1, .int r.2, rfl, rfl, .inl (.inl f2), atI_nat (j := 1) rfl, p.2, r.2, rfl, ?_⟩
        refine ⟨fun σ' H2 => ∃ ms2 rs2, σ' = [some (.ref a), some (.ref b), some (.ref sh), some (.int i), some (.int j), some (.int (mxI p.1 r.1)), some (.int (mnI p.2 r.2))] ∧ Same H H2 ∧ H2 sh = some (.lst ms2) ∧ Prs H2 ms2 rs2 ∧ rs2.length ≤ i + j + 1 ∧
          rs2 ++ (if p.2 < r.2 then bothF (ps.drop (i + 1)) (r :: qs.drop (j + 1)) else bothF (p :: ps.drop (i + 1)) (qs.drop (j + 1))) = bothF ps qs, ?_, fun σ' H2 hM => ?_⟩
        · refine ⟨_, rfl, _, rfl, mxI p.1 r.1, mnI p.2 r.2, rfl, rfl, _, rfl, ite2 (fun c => ?_) (fun c => ?_)⟩
          · have c' := of_decide_eq_true c
            rw [if_pos c', ← List.append_assoc] at hbo
            refine ⟨_, rfl, .inl ⟨rfl, _, SqL.of esh⟩, _, rfl, _, rfl, (by show 2 ≤ sizeLine; decide), fun T nT => ?_⟩
            have sT := same_upd (o := .tup [.int (mxI p.1 r.1), .int (mnI p.2 r.2)]) nT
            refine ⟨sh, _, _, rfl, rfl, sT _ _ esh, small1000 (by have := hms.1; omega), ?_⟩
            refine ⟨_, _, rfl, fun b o e => ?_, upd_same, ((hms.same sT).snoc upd_same).upd_lst (sT _ _ esh), by rw [List.length_append]; exact Nat.add_le_add_right hrl 1, hbo⟩
            rw [upd_ne (ne_of_none e nsh)]
            exact sT _ _ (sm b o e)
          · have c' : ¬ mxI p.1 r.1 ≤ mnI p.2 r.2 := fun z => c (decide_eq_true z)
            rw [if_neg c', List.nil_append] at hbo
            exact ⟨ms, rs, rfl, sm, esh, hms, by omega, hbo⟩
        · obtain ⟨ms2, rs2, rfl, sm2, esh2, hms2, hl3, hb3⟩ := hM
          have ha2 := ha.same sm2
          have hb2 := hb.same sm2
          have f1' := sm2 _ _ e1
          have f2' := sm2 _ _ e2
          refine ⟨_, rfl, _, rfl, a, us, i, .ref T1, rfl, rfl, ha2, atI_nat g1, T1, _, 1, .int p.2, rfl, rfl, .inl (.inl f1'), atI_nat (j := 1) rfl, _, rfl, _, rfl, b, ws, j, .ref T2, rfl, rfl, hb2, atI_nat g2, T2, _, 1, .int r.2, rfl, rfl, .inl (.inl f2'), atI_nat (j := 1) rfl, p.2, r.2, rfl, rfl, _, rfl, ite2 (fun c => ?_) (fun c => ?_)⟩
          · have c' := of_decide_eq_true c
            rw [if_pos c', ← ed2] at hb3
            exact ⟨_, rfl, (i : Int), 1, rfl, rfl, _, by omega, i + 1, j, ms2, rs2, _, _, rfl, rfl, by omega, hj, sm2, esh2, hms2, by omega, hb3⟩
          · have c' : ¬ p.2 < r.2 := fun z => c (decide_eq_true z)
            rw [if_neg c', ← ed1] at hb3
            exact ⟨_, rfl, (j : Int), 1, rfl, rfl, _, by omega, i, j + 1, ms2, rs2, _, _, rfl, rfl, hi, by omega, sm2, esh2, hms2, by omega, hb3⟩
      · have c' : ¬ (j : Int) < ws.length := fun z => c2 (decide_eq_true z)
        refine ⟨_, rfl, fin ?_⟩
        rw [List.drop_eq_nil_of_le (by omega : qs.length ≤ j)]
        exact bothF_nil _
    · have c' : ¬ (i : Int) < us.length := fun z => c1 (decide_eq_true z)
      refine ⟨_, rfl, fin ?_⟩
      rw [List.drop_eq_nil_of_le (by omega : ps.length ≤ i), bothF]
end
/-! ### gaps_of -/
abbrev sGaps : Stmt := topS 3
theorem scGaps : FnScope ["some", "begin", "end", "gaps", "start", "first", "last"] ["some", "begin", "end"] (defScope sGaps) := ⟨rfl, rfl, rfl, by decide +kernel, rfl, by decide +kernel, by decide +kernel⟩
def spGaps (K : PySem.W.Frag) : Sp := fun vs H Q _ => ∃ (a : Addr) (qs : List (Int × Int)) (x y : Int), vs = [.ref a, .int x, .int y] ∧ PrA K H a qs ∧ (∃ lo, Ris lo qs) ∧ qs.length ≤ 800 ∧ TellS (fun n => (x ≤ n ∧ n ≤ y) ∧ ¬ InS qs n) (qs.length + 1) H Q
section
variable {K : PySem.W.Frag} {mg : Str → Option Value} {P : Program} {w : World} {base : Heap}
theorem ok_gaps {f : Addr} {fd : FuncData} (F : Fun K "gaps_of" "gaps_of" sGaps f fd) (CO : Cal P w K mg base 1 "set_of" ["pairs"] (spSetOf K)) (mx : mg "max" = none) (mn : mg "min" = none) : FnOk P w K mg base CX0 2 f fd ["some", "begin", "end"] (spGaps K) := by
  refine F.ok scGaps (fun vs H Q E h => ?_) (fun cdv A outer s H vs Q E hr h => ?_)
  · obtain ⟨a, qs, x, y, rfl, _⟩ := h
    rfl
  · obtain ⟨a, qs, x, y, rfl, ⟨ws, hb, hqs⟩, ⟨lo, hr2⟩, hz, q⟩ := h
    refine ⟨_, pss_cons (ps_set (i := 3) scGaps.nd rfl (.inl rfl) (pe_lst pa_nil))
      (pss_cons (ps_set (i := 4) scGaps.nd rfl (.inl rfl) (pv 1))
      (pss_cons (ps_for PassesOwn.never rfl (pi_seq (pv 0)) (pg_tup rfl (pgs_cons (pg_name (i := 5) scGaps.nd rfl (.inl rfl)) (pgs_cons (pg_name (i := 6) scGaps.nd rfl (.inl rfl)) pgs_nil)))
        (pss_cons (ps_expr (pe_bm PySem.F.plainAttrs_list PySem.F.slot_list_append PySem.F.type_list_append mt_append (pv 3) (pa_cons (pe_tup (pa_cons (pv 4) (pa_cons (pe_callB (call_min2 rfl) (by rfl) mn (by decide +kernel) (pa_cons (pe_op op_sub (pv 5) pe_int) (pa_cons (pv 2) pa_nil))) pa_nil))) pa_nil)))
        (pss_one (ps_set (i := 4) scGaps.nd rfl (.inl rfl) (pe_callB (call_max2 rfl) (by rfl) mx (by decide +kernel) (pa_cons (pv 4) (pa_cons (pe_op op_add (pv 6) pe_int) pa_nil)))))))
      (pss_cons (ps_expr (pe_bm PySem.F.plainAttrs_list PySem.F.slot_list_append PySem.F.type_list_append mt_append (pv 3) (pa_cons (pe_tup (pa_cons (pv 4) (pa_cons (pv 2) pa_nil))) pa_nil)))
      (pss_one (ps_ret (pe_own CO hr (by rfl) (pa_cons (pv 3) pa_nil))))))), ?_⟩
    refine ⟨Nat.zero_le _, fun g ng => ?_⟩
    have s0 := same_upd (o := .lst []) ng
    have hl2 := hqs.1
    refine ⟨_, rfl, .ref a, rfl, a, rfl, for_seqS (xs := ws) hb s0 (fun i σ H1 => ∃ (st : Int) (ms : List V) (rs : List (Int × Int)) (y5 y6 : Option V), σ = [some (.ref a), some (.int x), some (.int y), some (.ref g), some (.int st), y5, y6] ∧ Same H H1 ∧ H1 g = some (.lst ms) ∧ Prs H1 ms rs ∧ rs.length = i ∧ rs ++ gapsF y st (qs.drop i) = gapsF y x qs)
      ⟨x, [], [], none, none, rfl, s0, upd_same, Prs.nil, rfl, rfl⟩ (fun i σ H1 hP => ?_) (fun i v σ H1 hv hP => ?_) (fun σ H1 hP => ?_)⟩
    · obtain ⟨_, _, _, _, _, rfl, sm, _⟩ := hP
      exact sm
    · obtain ⟨st, ms, rs, y5, y6, rfl, sm, eg, hms, hrl, hgf⟩ := hP
      obtain ⟨p, T, ep, rfl, eT⟩ := prs_at hqs hv
      have eT1 := sm _ _ eT
      have hi : i < qs.length := (List.getElem?_eq_some_iff.mp ep).1
      rw [drop_at ep, gapsF] at hgf
      refine ⟨T, _, rfl, .inl (.inl eT1), rfl, _, _, rfl, _, _, rfl, rfl, ?_⟩
      refine ⟨_, rfl, .inl ⟨rfl, _, SqL.of eg⟩, _, rfl, _, rfl, p.1, 1, rfl, rfl, _, rfl, p.1 - 1, y, rfl, (by show 2 ≤ sizeLine; decide), fun T2 n2 => ?_⟩
      have sT := same_upd (o := .tup [.int st, .int (mnI (p.1 - 1) y)]) n2
      refine ⟨g, _, _, rfl, rfl, sT _ _ eg, small1000 (by have := hms.1; omega), ?_⟩
      refine ⟨_, rfl, _, rfl, p.2, 1, rfl, rfl, st, p.2 + 1, rfl, mxI st (p.2 + 1), _, rs ++ [(st, mnI (p.1 - 1) y)], _, _, rfl, fun b o e => ?_, upd_same, ((hms.same sT).snoc upd_same).upd_lst (sT _ _ eg), by rw [List.length_append, hrl]; rfl, by rw [List.append_assoc]; exact hgf⟩
      rw [upd_ne (ne_of_none e ng)]
      exact sT _ _ (sm b o e)
    · obtain ⟨st, ms, rs, y5, y6, rfl, sm, eg, hms, hrl, hgf⟩ := hP
      rw [hl2, List.drop_length, gapsF] at hgf
      refine ⟨_, rfl, .inl ⟨rfl, _, SqL.of eg⟩, _, rfl, _, rfl, (by show 2 ≤ sizeLine; decide), fun T2 n2 => ?_⟩
      have sT := same_upd (o := .tup [.int st, .int y]) n2
      refine ⟨g, _, _, rfl, rfl, sT _ _ eg, small1000 (by have := hms.1; omega), ?_⟩
      have hp : Prs (upd (upd H1 T2 (.tup [.int st, .int y])) g (.lst (ms ++ [.ref T2]))) (ms ++ [.ref T2]) (gapsF y x qs) := by
        rw [← hgf]
        exact ((hms.same sT).snoc upd_same).upd_lst (sT _ _ eg)
      have s3 : Same H (upd (upd H1 T2 (.tup [.int st, .int y])) g (.lst (ms ++ [.ref T2]))) := fun b o e => by
        rw [upd_ne (ne_of_none e ng)]
        exact sT _ _ (sm b o e)
      refine ⟨_, rfl, g, _, _, rfl, Sq.list upd_same, hp, by rw [gapsF_length]; omega, fun l2 w2 rs2 H2 nl2 e2 hrs hset s2 => ?_⟩
      exact q l2 rs2 H2 (s3.free nl2) ⟨_, e2, hrs⟩ (hset.told.cong fun n => gapsF_in hr2) (by have := hset.len; rwa [gapsF_length] at this) (s3.trans s2)
end
/-! ### without -/
theorem Ris.upto : ∀ {lo n : Int} {ps : List (Int × Int)} {p : Int × Int}, Ris lo (ps ++ [p]) → InS (ps ++ [p]) n → n ≤ p.2 := by
  intro lo n ps p h e
  obtain ⟨h1, h2, h3, h4⟩ := Ris.front h
  rcases inS_append.mp e with z | z
  · obtain ⟨q, hq, z1, z2⟩ := z
    have := h2 q hq
    omega
  · rcases inS_cons.mp z with y | y
    · exact y.2
    · exact absurd y inS_nil
abbrev sWithout : Stmt := topS 4
theorem scWithout : FnScope ["one", "other"] ["one", "other"] (defScope sWithout) := ⟨rfl, rfl, rfl, by decide +kernel, rfl, by decide +kernel, by decide +kernel⟩
def spWithout (K : PySem.W.Frag) : Sp := fun vs H Q _ => ∃ (a b : Addr) (ps qs : List (Int × Int)), vs = [.ref a, .ref b] ∧ PrA K H a ps ∧ PrA K H b qs ∧ (∃ lo, Ris lo ps) ∧ (∃ lo, Ris lo qs) ∧ ps.length + qs.length ≤ 800 ∧ TellS (fun n => InS ps n ∧ ¬ InS qs n) (ps.length + qs.length + 1) H Q
section
variable {K : PySem.W.Frag} {mg : Str → Option Value} {P : Program} {w : World} {base : Heap}
theorem ok_without {f : Addr} {fd : FuncData} (F : Fun K "without" "without" sWithout f fd) (CA : Cal P w K mg base 1 "both_of" ["one", "other"] (spBoth K)) (CG : Cal P w K mg base 2 "gaps_of" ["some", "begin", "end"] (spGaps K)) : FnOk P w K mg base CX0 3 f fd ["one", "other"] (spWithout K) := by
  refine F.ok scWithout (fun vs H Q E h => ?_) (fun cdv A outer s H vs Q E hr h => ?_)
  · obtain ⟨a, b, ps, qs, rfl, _⟩ := h
    rfl
  · obtain ⟨a, b, ps, qs, rfl, ⟨us, ha, hps⟩, hb, ⟨lo, hr1⟩, hr2, hz, q⟩ := h
    have hr1' := hr.mono (show 1 ≤ 2 by decide)
    refine ⟨_, pss_cons (ps_if (pt_not (pt_truth (pv 0) (by intro _; rfl))) (pss_one (ps_ret (pe_lst pa_nil))) pss_nil)
      (pss_one (ps_ret (pe_own CA hr1' (by rfl) (pa_cons (pv 0) (pa_cons (pe_own CG hr (by rfl) (pa_cons (pv 1) (pa_cons (pe_ix ix_tup (pe_ix ix_seq (pv 0) pe_int (fun _ _ => rfl)) pe_int (fun _ _ => rfl)) (pa_cons (pe_ix ix_tup (pe_ix ix_seq (pv 0) (pe_un un_neg pe_int) (fun _ _ => rfl)) pe_int (fun _ _ => rfl)) pa_nil)))) pa_nil))))), ?_⟩
    have tru : ∀ k, k = (!us.isEmpty) → TruV K (.ref a) H k := fun k e => ha.elim (fun h => .inl ⟨us, h, e⟩) fun h => .inr (.inl ⟨us, h, e⟩)
    rcases snoc_cases ps with e0 | ⟨ps', p, e0⟩
    · have e1 : us = [] := List.eq_nil_of_length_eq_zero (by rw [hps.1, e0]; rfl)
      subst e0 e1
      refine ⟨_, rfl, false, tru _ rfl, iteT ?_⟩
      refine ⟨Nat.zero_le _, fun l nl => ?_⟩
      exact q l [] _ nl (LsA.nil upd_same) ⟨⟨0, True.intro⟩, fun n => ⟨fun z => absurd z inS_nil, fun z => z.1⟩⟩ (Nat.zero_le _) (same_upd nl)
    · subst e0
      obtain ⟨us', T0, eus, eT0, hus'⟩ := hps.last
      have hne : us.isEmpty = false := by rw [eus]; simp
      refine ⟨_, rfl, true, tru _ (by rw [hne]; rfl), iteF ?_⟩
      obtain ⟨p0, ep0⟩ : ∃ p0, (ps' ++ [p])[0]? = some p0 := by
        cases ps' with
        | nil => exact ⟨p, rfl⟩
        | cons x r => exact ⟨x, rfl⟩
      obtain ⟨T, g0, eT⟩ := hps.2 0 p0 ep0
      have glast : atI us (-1) = some (.ref T0) := by rw [eus]; exact atI_last _ _
      refine ⟨_, rfl, _, rfl, _, rfl, a, us, 0, .ref T, rfl, rfl, ha, atI_nat (j := 0) g0, T, _, 0, .int p0.1, rfl, rfl, .inl (.inl eT), atI_nat (j := 0) rfl, _, rfl, 1, rfl, a, us, -1, .ref T0, rfl, rfl, ha, glast, T0, _, 1, .int p.2, rfl, rfl, .inl (.inl eT0), atI_nat (j := 1) rfl, ?_⟩
      refine ⟨b, qs, p0.1, p.2, rfl, hb, hr2, by omega, fun l1 rs1 H1 n1 hl1 ht1 hz1 s1 => ?_⟩
      refine ⟨a, l1, ps' ++ [p], rs1, rfl, (PrA.same ⟨us, ha, hps⟩ s1), hl1.pr, ⟨lo, hr1⟩, ht1.ris, by omega, fun l2 rs2 H2 n2 hl2 ht2 hz2 s2 => ?_⟩
      refine q l2 rs2 H2 (s1.free n2) hl2 (ht2.cong fun n => ?_) (by omega) (s1.trans s2)
      rw [ht1.same n]
      constructor
      · exact fun z => ⟨z.1, z.2.2⟩
      · intro z
        refine ⟨z.1, ⟨?_, Ris.upto hr1 z.1⟩, z.2⟩
        have r0 : Ris p0.1 (ps' ++ [p]) := by
          cases ps' with
          | nil =>
            cases ep0
            exact ⟨Int.le_refl _, hr1.2⟩
          | cons x r =>
            cases ep0
            exact ⟨Int.le_refl _, hr1.2⟩
        exact r0.low z.1
end

/-! ### things as data, all of it tracked -/
inductive Dat (H : Hp) : V → PyData → Prop
  | non : Dat H .non .none
  | bl (b : Bool) : Dat H (.bl b) (.bool b)
  | int (i : Int) : Dat H (.int i) (.int i)
  | str (x : Str) : Dat H (.str x) (.str x)
  | lst {a : Addr} {xs : List V} {ds : List PyData} : H a = some (.lst xs) → xs.length = ds.length → (∀ (i : Nat) x d, xs[i]? = some x → ds[i]? = some d → Dat H x d) → Dat H (.ref a) (.list ds)
  | tup {a : Addr} {xs : List V} {ds : List PyData} : H a = some (.tup xs) → xs.length = ds.length → (∀ (i : Nat) x d, xs[i]? = some x → ds[i]? = some d → Dat H x d) → Dat H (.ref a) (.tuple ds)
theorem Dat.same {H H' : Hp} {v : V} {d : PyData} (h : Dat H v d) (s : Same H H') : Dat H' v d := by
  induction h with
  | non => exact .non
  | bl b => exact .bl b
  | int i => exact .int i
  | str x => exact .str x
  | lst e l _ ih => exact .lst (s _ _ e) l ih
  | tup e l _ ih => exact .tup (s _ _ e) l ih
/-- at most so deep, no longer than these lines -/
def Sm : Nat → PyData → Prop
  | _, .none => True
  | _, .bool _ => True
  | _, .int _ => True
  | _, .str _ => True
  | n + 1, .list ds => ds.length ≤ 900 ∧ ∀ d ∈ ds, Sm n d
  | n + 1, .tuple ds => ds.length ≤ 900 ∧ ∀ d ∈ ds, Sm n d
  | _, _ => False
/-- no list, no tuple -/
def Flat (d : PyData) : Prop := d = .none ∨ (∃ b, d = .bool b) ∨ (∃ i, d = .int i) ∨ ∃ x, d = .str x
theorem Sm.cases {n : Nat} {d : PyData} (h : Sm (n + 1) d) : Flat d ∨ (∃ ds, d = .list ds ∧ ds.length ≤ 900 ∧ ∀ d ∈ ds, Sm n d) ∨ ∃ ds, d = .tuple ds ∧ ds.length ≤ 900 ∧ ∀ d ∈ ds, Sm n d := by
  cases d <;> first | exact .inl (.inl rfl) | exact .inl (.inr (.inl ⟨_, rfl⟩)) | exact .inl (.inr (.inr (.inl ⟨_, rfl⟩))) | exact .inl (.inr (.inr (.inr ⟨_, rfl⟩))) | exact .inr (.inl ⟨_, rfl, h.1, h.2⟩) | exact .inr (.inr ⟨_, rfl, h.1, h.2⟩) | exact h.elim
theorem Sm.flat {d : PyData} (h : Sm 0 d) : Flat d := by
  cases d <;> first | exact .inl rfl | exact .inr (.inl ⟨_, rfl⟩) | exact .inr (.inr (.inl ⟨_, rfl⟩)) | exact .inr (.inr (.inr ⟨_, rfl⟩)) | exact h.elim
theorem walk_zipTs {K : PySem.W.Frag} {a b : Addr} {xs ys : List V} {n : Nat} (h1 : xs.length = n) (h2 : ys.length = n) : Walk (RZ.ItzT K a b) n (fun H => SqT K H a xs ∧ SqT K H b ys) (YPair (fun i => xs[i]?) (fun i => ys[i]?)) where
  goes := fun i _ lt q => ⟨xs, ys, _, _, q.1, q.2, List.getElem?_eq_getElem (h1.symm ▸ lt), List.getElem?_eq_getElem (h2.symm ▸ lt)⟩
  stops := fun _ q => ⟨xs, ys, q.1, q.2, .inl (Nat.le_of_eq h1)⟩
  yields := fun i _ _ _ _ q ⟨T, x, z, e1, e2, e3, e4, e5⟩ => ⟨T, x, z, e1, e2, e3, e4 xs q.1, e5 ys q.2⟩
theorem prs_dat {H : Hp} {us : List V} {ps : List (Int × Int)} (h : Prs H us ps) : ∀ (i : Nat) x d, us[i]? = some x → (ps.map pairD)[i]? = some d → Dat H x d := fun i x d e1 e2 => by
  obtain ⟨p, a, ep, rfl, ea⟩ := prs_at h e1
  rw [List.getElem?_map, ep] at e2
  have ed : pairD p = d := Option.some.inj e2
  rw [← ed]
  refine .tup ea rfl fun j y d f1 f2 => ?_
  have hj : j < 2 := (List.getElem?_eq_some_iff.mp f1).1
  have : j = 0 ∨ j = 1 := by omega
  rcases this with rfl | rfl
  · cases f1; cases f2; exact .int _
  · cases f1; cases f2; exact .int _
theorem sm_prs {ps : List (Int × Int)} (h : ps.length ≤ 900) : Sm 2 (.list (ps.map pairD)) := by
  refine ⟨by rw [List.length_map]; exact h, fun d hd => ?_⟩
  obtain ⟨p, _, rfl⟩ := List.mem_map.mp hd
  exact ⟨by show 2 ≤ 900; decide, fun d hd => by
    rcases List.mem_cons.mp hd with e | e
    · rw [e]; trivial
    · rw [List.mem_singleton.mp e]; trivial⟩
theorem ints_dat {H : Hp} {a : Addr} {ns : List Int} (e : H a = some (.lst (ns.map V.int))) : Dat H (.ref a) (.list (ns.map PyData.int)) := .lst e (by rw [List.length_map, List.length_map]) fun i x d e1 e2 => by
  rw [List.getElem?_map] at e1 e2
  cases h : ns[i]? with
  | none => rw [h] at e1; cases e1
  | some n =>
    rw [h] at e1 e2
    cases e1
    cases e2
    exact .int n
theorem sm_ints {ns : List Int} (h : ns.length ≤ 900) : Sm 1 (.list (ns.map PyData.int)) := by
  refine ⟨by rw [List.length_map]; exact h, fun d hd => ?_⟩
  obtain ⟨p, _, rfl⟩ := List.mem_map.mp hd
  trivial

def SqH (H : Hp) (a : Addr) (xs : List V) : Prop := H a = some (.lst xs) ∨ H a = some (.tup xs)

/-! ### defs that are called while nothing is being shown: str of lists within lists -/
/-- a def keeps its promise where nothing is being shown -/
structure FnG (P : Program) (w : World) (K : PySem.W.Frag) (mg : Str → Option Value) (base : Heap) (CX : CXT) (k : Nat) (f : Addr) (fd : FuncData) (ps : List Str) (sp : Sp) : Prop where
  len : ∀ (vs : List V) (H : Hp) (Q : VK) (E : XK), sp vs H Q E → vs.length = ps.length
  run : ∀ (A : Around) (outer : List Env) (s : Shared) (H : Hp) (args : Args) (us : List Value) (vs : List V) (Q : VK) (E : XK), A.guards = some [] → Room k A → Env0 P w K mg base A outer s H → BindsTo s fd args (ps.zip us) → Vals vs us → sp vs H Q E → codeAny (model P w) A (Code.call (Value.ref f) args) (CR CX outer P w H s Q E) s
section
variable {CX : CXT} {P : Program} {w : World} {K : PySem.W.Frag} {mg : Str → Option Value} {base : Heap} {k : Nat}
theorem FnG.of {f : Addr} {fd : FuncData} {ps : List Str} {sp : Sp} (F : FnOk P w K mg base CX k f fd ps sp) : FnG P w K mg base CX k f fd ps sp :=
  ⟨F.len, fun A outer s H args us vs Q E _ hr e0 hb r hsp => F.run A outer s H args us vs Q E hr e0 hb r hsp⟩
theorem fn_ofG {f : Addr} {name qual : Str} {params : Arguments} {body : List Stmt} {scope : Scope} {dV kV doc pm cdv ct oc : Value} {an od : Option Addr} {osl : Array (Option Value)} {N ps : List Str} {sp : Sp}
    (lk : List.lookup f K = some { cls := oc, dict := od, data := Data.func (PySem.W.fnOf name qual params body scope dV kV doc pm an cdv ct), slots := osl }) (hcd : PySem.W.codeIn K cdv qual = true) (S : FnScope N ps scope)
    (len : ∀ (vs : List V) (H : Hp) (Q : VK) (E : XK), sp vs H Q E → vs.length = ps.length)
    (hbody : ∀ (A : Around) (outer : List Env) (s : Shared) (H : Hp) (vs : List V) (Q : VK) (E : XK), A.guards = some [] → Room k (A.deeper (PyProof.Rows.envOfC qual scope s.heap.objs.size f cdv)) → sp vs H Q E →
      ∃ t, PSs (cxOf CX P w K mg base N qual scope f cdv A outer s H E) body t ∧ t { nx := fun _ H' => Q V.non H', rt := Q } (L2.start N vs) H) :
    FnG P w K mg base CX (k + 1) f (PySem.W.fnOf name qual params body scope dV kV doc pm an cdv ct) ps sp := by
  refine ⟨len, fun A outer s H args us vs Q E hgd hr e0 hb r hsp => ?_⟩
  have hl := len vs H Q E hsp
  have KX := PySem.W.Frag.In.keeps e0.mod.kin fun b o e => (e0.bs b o e).1
  have lim := Heap.NoLimit.keeps e0.mod.nolimit fun b o e => (e0.bs b o e).1
  refine codeAny_call_function (Room.depth hr) (KX f _ lk) rfl S.co S.gen rfl (PySem.W.codeRec_of KX hcd) (hb (model P w) A.in1 _ _ (wpAny_newFunctionEnv_cells S.kind (fun x hy => ?_) fun env he s1 x => ?_))
  · obtain ⟨n, v⟩ := x
    rcases S.par n (List.of_mem_zip hy).1 with q | q
    · exact .inl q
    · exact .inr ⟨q, PySem.W.cellsFrom_some scope.names _ [] (.inl q)⟩
  · subst he
    refine ⟨Heap.NoLimit.keeps lim x.toInCall.keep, codeAny_func ?_⟩
    obtain ⟨t, ht, hq⟩ := hbody A outer s H vs Q E hgd (Room.deeper hr _) hsp
    have I := inv_start (CX := CX) (E := E) S hr.hd e0 hl r x
    refine wpAny_mono (ht.run [] s1 (L2.start N vs) H _ I hq) (fun fl s' hs => ?_) (fun e s' hs => hs)
    cases fl with
    | ret u =>
      obtain ⟨v, σ', H', J, rv, q⟩ := hs
      exact ⟨v, H', J.os, J.bare, J.base, J.hok, rv, q⟩
    | next =>
      obtain ⟨σ', H', J, q⟩ := hs
      exact ⟨V.non, H', J.os, J.bare, J.base, J.hok, rfl, q⟩
    | _ =>
      obtain ⟨_, _, _, q⟩ := hs
      exact q.elim
theorem Fun_okG {x qual : Str} {st : Stmt} {f : Addr} {fd : FuncData} {N ps : List Str} {sp : Sp} (F : Fun K x qual st f fd) (S : FnScope N ps (defScope st))
    (len : ∀ (vs : List V) (H : Hp) (Q : VK) (E : XK), sp vs H Q E → vs.length = ps.length)
    (hbody : ∀ (cdv : Value) (A : Around) (outer : List Env) (s : Shared) (H : Hp) (vs : List V) (Q : VK) (E : XK), A.guards = some [] → Room k (A.deeper (PyProof.Rows.envOfC qual (defScope st) s.heap.objs.size f cdv)) → sp vs H Q E →
      ∃ t, PSs (cxOf CX0 P w K mg base N qual (defScope st) f cdv A outer s H E).nox (defBody st) t ∧ t { nx := fun _ H' => Q V.non H', rt := Q } (L2.start N vs) H) :
    FnG P w K mg base CX0 (k + 1) f fd ps sp := by
  obtain ⟨oc, od, kV, doc, pm, an, cdv, ct, osl, rfl, lk, hcd⟩ := F.ex
  refine fn_ofG lk hcd S len fun A outer s H vs Q E hg hr hsp => ?_
  obtain ⟨t, h, q⟩ := hbody cdv A outer s H vs Q E hg hr hsp
  exact ⟨t, PSs.nox h, q⟩
end
theorem run_fnG {X : Cx} {CX : CXT} {k : Nat} {f : Addr} {fd : FuncData} {ps : List Str} {sp : Sp} {dvs : List V} {ds : List Value} {E : XK} {pins : List (Addr × Obj)} {σ : L2.St} {H : Hp} {s : Shared} {Q : VK} {us : List Value} {vs : List V}
    (F : FnG X.prog X.w X.K X.mg X.base CX k f fd ps sp) (hgd : X.A.guards = some []) (hr : Room k X.A) (hb : Binds X.K fd ps ds) (hd : Vals dvs ds) (hx : Passes CX X E) (I : L2.Inv X pins σ H s) (r : Vals vs us) (h : sp (vs ++ dvs) H Q E) :
    wpAny (model X.prog X.w) X.A (call (Value.ref f) us) (EP X pins σ Q) X.xe s := by
  have r2 := Vals.append r hd
  have hl : (us ++ ds).length = ps.length := by rw [← Vals.length r2]; exact F.len _ _ _ _ h
  refine wpAny_call (codeAny_mono (F.run X.A X.stack s H _ _ _ Q E hgd hr (Inv.env0 I) (hb s us (Inv.kIn I) hl) r2 h) fun r s' hq => ?_)
  cases r with
  | error e => exact hx pins σ H s e s' I hq
  | ok fl =>
    cases fl with
    | ret u => exact Inv.after I hq
    | _ => exact hq.elim
/-- a def of the text that keeps a promise where nothing is being shown, as its callers see it -/
def CalG (P : Program) (w : World) (K : PySem.W.Frag) (mg : Str → Option Value) (base : Heap) (k : Nat) (x : Str) (ps : List Str) (sp : Sp) : Prop :=
  ∃ f fd, FnG P w K mg base CX0 k f fd ps sp ∧ mg x = some (.ref f) ∧ PySem.W.keepIn K (.ref f) = true ∧ Binds K fd ps []
theorem pe_ownG {X : Cx} {k : Nat} {x : Str} {ps : List Str} {sp : Sp} {e : Expr} {es : List Expr} {t : TA} {p pos : Pos} (C : CalG X.prog X.w X.K X.mg X.base k x ps sp) (hgd : X.A.guards = some []) (hr : Room k X.A) (hg : Gl X x) (ha : PA X (e :: es) t)
    (dbg : (x == ("__debug__" : Str)) = false := by decide) (one : starEach (e :: es) X.env = (false, eval e X.env) :: starEach es X.env := by rfl) (star : (backTo pos (starEach es X.env)).any (·.1) = false := by rfl) :
    PE X (.Call (.Name x p) (e :: es) [] pos) (tCall sp [] E0 t) := by
  obtain ⟨f, fd, F, hm, hk, hb⟩ := C
  refine ⟨fun pins s σ H Q I h => wpAny_Call_Name_kw (ld_glob I hg hm (PySem.W.callWith_K I.ok.mod.kin hk (thn (ha.run pos pins s σ H _ I h) fun us s1 z => ?_) one star) dbg)⟩
  obtain ⟨vs, H1, I1, r, q⟩ := z
  exact ⟨Inv.kIn I1, run_fnG F hgd hr hb .nil pass0 I1 r q⟩
/-- str of data -/
def rStrD (K : PySem.W.Frag) : List V → Hp → VK → Prop := fun xs H Q => ∃ (a : Addr) (d : PyData), xs = [.ref a] ∧ Dp K H (.ref a) d ∧ d.showable = true ∧ d.hasDict = false ∧ d.depth ≤ 8 ∧ d.shown.length ≤ sizeLine ∧ Q (.str d.shown) H
theorem cr_strD {X : Cx} (hg : X.A.guards = some []) (hu : X.A.units + 11 < cLine) : CallR X (.type "str") (rStrD X.K) := fun pins s σ H xs us Q I hv h => by
  obtain ⟨a, d, rfl, hd, h1, h2, h3, h4, q⟩ := h
  cases hv with
  | cons ru hn =>
    cases hn
    cases ru
    obtain ⟨as, hR⟩ := Dp.reads I d (.ref a) (.ref a) hd rfl
    exact str_of_reads hR h1 (fun z => by rw [h2] at z; cases z) hg (by omega) (fun b o e => e) (fun h' u tk keep => ⟨.str d.shown, H, I.kept keep, ⟨u, rfl⟩, q⟩) h4
/-! ### the end -/
theorem law_callG {P : Program} {w : World} {K : PySem.W.Frag} {mg mb : Str → Option Value} {CX : CXT} {k : Nat} {fa a : Addr} {fd : FuncData} {x : Str} {sp : Sp} {s₁ : Shared} {vs : List Value} {ns : List Int}
    (KX : K.In s₁.heap) (hns : s₁.heap.Ns mainGlobals mg) (hb : s₁.heap.Ns builtinsNs mb) (hbb : ∀ (x : Str), x ≠ Str.ofString "__name__" → mb x = bootBuiltins x) (hlim : s₁.heap.NoLimit) (hg : s₁.gens = #[])
    (ha : s₁.heap.get? a = some { cls := Value.type "list", data := Data.seq vs.toArray }) (hi : PyProof.Rows.IntsAre vs ns) (hl : ns.length ≤ sizeLine) (hr : Room k callerA)
    (F : ∀ (base : Heap), K.In base → base.Ns mainGlobals mg → FnG P w K mg base CX k fa fd [x] sp) (hbind : ∀ (s : Shared) (u : Value), BindsTo s fd { pos := [u] } [(x, u)])
    (hsp : ∀ (H : Hp), Only H → SqL K H a (List.map V.int ns) → sp [V.ref a] H (fun v _ => v = V.bl true) fun _ _ _ => False) (hCX : ∀ (H : Hp) (e : Value) (s' : Shared), CX [] H s₁ (fun _ _ _ => False) e s' → False) :
    codeAny (model P w) callerA (Code.call (Value.ref fa) { pos := [Value.ref a] }) (fun r s' => r = Except.ok (Flow.ret (Value.bool true)) ∧ OldK s₁.heap s'.heap ∧ s'.os = s₁.os ∧ PyProof.Rows.AllBare s'.gens) s₁ := by
  have rv := vals_ints hi
  have lenV := PyProof.Rows.IntsAre.length hi
  have core : ∀ H : Hp, Only H → SqL K H a (List.map V.int ns) → HOk P w H s₁.heap → (∀ b, H b ≠ none → b = a) → (H a ≠ none → List.lookup a K = none) →
      codeAny (model P w) callerA (Code.call (Value.ref fa) { pos := [Value.ref a] }) (fun r s' => r = Except.ok (Flow.ret (Value.bool true)) ∧ OldK s₁.heap s'.heap ∧ s'.os = s₁.os ∧ PyProof.Rows.AllBare s'.gens) s₁ := by
    intro H hO hS hok hA hK
    have isA : ∀ {b : Addr} {u : HO}, H b = some u → b = a := fun {b u} hh => hA b (by rw [hh]; exact fun z => nomatch z)
    have noA : ∀ {b : Addr} {o : Obj} {es ep}, s₁.heap.get? b = some o → o.data = Data.dict es ep → H b = none := by
      intro b o es ep e d
      cases hh : H b with
      | none => rfl
      | some u =>
        rw [isA hh, ha] at e
        rw [← Option.some.inj e] at d
        cases d
    have nsK : ∀ {b : Addr} {m : Str → Option Value}, s₁.heap.Ns b m → (hidT s₁.heap H).Ns b m := fun {b m} z => by
      obtain ⟨o, es, ep, e, d, r⟩ := z
      exact ⟨o, es, ep, hidT_get e (noA e d), d, r⟩
    have hKb : K.In (hidT s₁.heap H) := fun b o e => hidT_get (KX b o e) (by
      cases hh : H b with
      | none => rfl
      | some u =>
        rw [isA hh, hK (by rw [isA hh] at hh; rw [hh]; exact fun z => nomatch z)] at e
        cases e)
    have hM : L2.Mod K mg (hidT s₁.heap H) := ⟨hKb, nsK hns, ⟨mb, nsK hb, hbb⟩, let ⟨mc, h1, h2⟩ := hlim; ⟨mc, nsK h1, h2⟩⟩
    have e0 : Env0 P w K mg (hidT s₁.heap H) callerA [] s₁ H := ⟨rfl, hM, fun b o e => of_hidT e, Nat.le_of_eq (hidT_size ..), trivial, fun b hb => (nomatch hb), hok, .of_eq hg⟩
    refine codeAny_mono ((F _ hKb (nsK hns)).run callerA [] s₁ H ⟨[.ref a], []⟩ [.ref a] [.ref a] (fun v _ => v = .bl true) (fun _ _ _ => False) rfl hr e0 (hbind s₁ (.ref a)) (.cons rfl .nil) (hsp H hO hS)) fun r s' h => ?_
    cases r with
    | error e => exact (hCX H e s' h).elim
    | ok fl =>
      cases fl with
      | ret u =>
        obtain ⟨v, H', os, bare, un, hok', r', q⟩ := h
        subst q
        cases r'
        refine ⟨rfl, OldK.of_keep fun b o e => ?_, os, bare⟩
        cases hh : H b with
        | none => exact un.keep b o e hh (fun z => nomatch z) (fun z => nomatch z)
        | some u =>
          rcases hO b with z | ⟨ob, xs, z⟩
          · rw [z] at hh; cases hh
          · have z2 := un.frzs b ob (HO.lst xs) z
            have e1 := (hok b _ z).1
            have e2 := (hok' b _ z2).1
            rw [e] at e1
            rw [Option.some.inj e1]
            exact e2
      | _ => exact h.elim
  cases hk : List.lookup a K with
  | none =>
    have at_a : (fun b => if b = a then some (HO.frz { cls := Value.type "list", data := Data.seq vs.toArray } (HO.lst (List.map V.int ns))) else none : Hp) a = some (HO.frz { cls := Value.type "list", data := Data.seq vs.toArray } (HO.lst (List.map V.int ns))) := if_pos rfl
    refine core (fun b => if b = a then some (HO.frz { cls := Value.type "list", data := Data.seq vs.toArray } (HO.lst (List.map V.int ns))) else none) (fun b => ?_) (.inl (.inr ⟨_, at_a⟩)) (fun b u z => ?_) (fun b z => ?_) (fun _ => hk)
    · by_cases hb : b = a
      · exact .inr ⟨_, _, if_pos hb⟩
      · exact .inl (if_neg hb)
    · by_cases hb : b = a
      · have z' := Eq.trans (Eq.symm (if_pos hb)) z
        cases z'
        subst hb
        exact ⟨ha, by rw [List.length_map]; exact hl, vs, 0, rv, ha⟩
      · have z' := Eq.trans (Eq.symm (if_neg hb)) z
        cases z'
    · by_cases hb : b = a
      · exact hb
      · exact absurd (if_neg hb) z
  | some o =>
    have e := KX a o hk
    rw [ha] at e
    cases e
    exact core (fun _ => none) (fun _ => .inl rfl) (.inr ⟨_, vs.toArray, 0, hk, rfl, rfl, rfl, by rw [List.size_toArray, lenV]; exact hl, rv⟩) (fun b u z => nomatch z) (fun b z => absurd rfl z) (fun z => absurd rfl z)
def LawAtG (l : PySem.W.OpenLaw) (w : World) (K : PySem.W.Frag) (k : Nat) (mg : Str → Option Value) (fa : Addr) : Prop :=
  ∃ (fd : FuncData) (sp : Sp), (∀ (s : Shared) (u : Value), BindsTo s fd { pos := [u] } [("_law_script", u)]) ∧ (∀ (H : Hp) (a : Addr) (ns : List Int), ns.length ≤ 63 → SqL K H a (List.map V.int ns) → sp [V.ref a] H (fun v _ => v = V.bl true) fun _ _ _ => False) ∧
    ∀ (base : Heap), K.In base → base.Ns mainGlobals mg → FnG l.prog w K mg base CX0 k fa fd ["_law_script"] sp
theorem law_endG {l : PySem.W.OpenLaw} {k : Nat} {q : Program} {loose : List Str} {XP : (Str → Option Value) → Heap → Prop} {YP : World → Heap → Prop} {d : DefRec} {K : Params → PySem.W.Frag} (most : l.most = some 63) (plain : d.params.defaults = []) (room : Room k callerA)
    (part : ∀ w h, YP w h → (K w.params).In h) (made : ∀ (w : World) (mg : Str → Option Value) (f : Addr) (h : Heap), (K w.params).In h → h.Ns mainGlobals mg → mg d.name = some (.ref f) → LawAtG l w (K w.params) k mg f) : PySem.W.WalkO q loose XP YP l.row.toRowW d [] (fun f vs => PySem.call f vs) := by
  refine Att.attach_callB most plain ?_
  intro w _ s₁ mg _ f _ _ _ _ a vs ns ground said _ _ _ name script nums len size still
  have X := part w _ said
  obtain ⟨fd, sp, e4, e5, e6⟩ := made w mg f _ X ground.T.g name
  exact law_callG X ground.T.g ground.T.b ground.T.builtins ground.T.nolimit still script nums (Nat.le_trans len (by decide)) room e6 e4 (fun H z1 z2 => e5 H a ns len z2) fun _ _ _ z => z

/-- an expression, then a word of what it gives: what follows is shown once -/
def tMid (te : TE) : TE := fun σ H Q => ∃ M : V → Hp → Prop, te σ H M ∧ ∀ v H', M v H' → Q v H'
theorem pe_mid {X : Cx} {e : Expr} {te : TE} (h : PE X e te) : PE X e (tMid te) := ⟨fun pins s σ H Q I ⟨M, h1, h2⟩ => thn (h.run pins s σ H M I h1) fun _ _ ⟨y, H1, I1, r, q⟩ => ⟨y, H1, I1, r, h2 _ _ q⟩⟩

/-! ### things as data; of the lists among them this holds -/
inductive DatN (N : Addr → Prop) (H : Hp) : V → PyData → Prop
  | non : DatN N H .non .none
  | bl (b : Bool) : DatN N H (.bl b) (.bool b)
  | int (i : Int) : DatN N H (.int i) (.int i)
  | str (x : Str) : DatN N H (.str x) (.str x)
  | lst {a : Addr} {xs : List V} {ds : List PyData} : N a → H a = some (.lst xs) → xs.length = ds.length → (∀ (i : Nat) x d, xs[i]? = some x → ds[i]? = some d → DatN N H x d) → DatN N H (.ref a) (.list ds)
  | tup {a : Addr} {xs : List V} {ds : List PyData} : H a = some (.tup xs) → xs.length = ds.length → (∀ (i : Nat) x d, xs[i]? = some x → ds[i]? = some d → DatN N H x d) → DatN N H (.ref a) (.tuple ds)
/-- tuples stay, and the lists of which this holds -/
structure Kps (N : Addr → Prop) (H H' : Hp) : Prop where
  tup : ∀ a xs, H a = some (.tup xs) → H' a = some (.tup xs)
  lst : ∀ a xs, N a → H a = some (.lst xs) → H' a = some (.lst xs)
theorem Kps.same {N : Addr → Prop} {H H' : Hp} (s : Same H H') : Kps N H H' := ⟨fun a xs e => s a _ e, fun a xs _ e => s a _ e⟩
theorem Kps.kp {N : Addr → Prop} {H H' : Hp} {d c : Addr} {t : Int} (k : Kp d c H H') (S : StAt H d c t) (hN : ∀ a, N a → a ≠ c) : Kps N H H' :=
  ⟨fun a xs e => k.tup S e, fun a xs n e => k a _ (fun z => by rw [z, S.dict] at e; cases e) (hN a n) e⟩
theorem Kps.upd {N : Addr → Prop} {H : Hp} {D : Addr} {ys : List V} {o : HO} (e : H D = some (.lst ys)) (hN : ∀ a, N a → a ≠ D) : Kps N H (upd H D o) :=
  ⟨fun a xs f => by rw [upd_ne (ne_of f e (fun z => nomatch z))]; exact f, fun a xs n f => by rw [upd_ne (hN a n)]; exact f⟩
theorem Kps.upd_dK {N : Addr → Prop} {H : Hp} {D : Addr} {ks : List (Key × V)} {o : HO} (e : H D = some (.dK ks)) : Kps N H (L2.upd H D o) :=
  ⟨fun a xs f => by rw [upd_ne (ne_of f e (fun z => nomatch z))]; exact f, fun a xs n f => by rw [upd_ne (ne_of f e (fun z => nomatch z))]; exact f⟩
theorem Kps.trans {N : Addr → Prop} {H H1 H2 : Hp} (a : Kps N H H1) (b : Kps N H1 H2) : Kps N H H2 := ⟨fun x xs e => b.tup x xs (a.tup x xs e), fun x xs n e => b.lst x xs n (a.lst x xs n e)⟩
theorem DatN.keep {N : Addr → Prop} {H H' : Hp} {v : V} {d : PyData} (h : DatN N H v d) (k : Kps N H H') : DatN N H' v d := by
  induction h with
  | non => exact .non
  | bl b => exact .bl b
  | int i => exact .int i
  | str x => exact .str x
  | lst n e l _ ih => exact .lst n (k.lst _ _ n e) l ih
  | tup e l _ ih => exact .tup (k.tup _ _ e) l ih
theorem DatN.same {N : Addr → Prop} {H H' : Hp} {v : V} {d : PyData} (h : DatN N H v d) (s : Same H H') : DatN N H' v d := h.keep (.same s)
theorem DatN.weak {N N' : Addr → Prop} {H : Hp} {v : V} {d : PyData} (h : DatN N H v d) (w : ∀ a xs, N a → H a = some (.lst xs) → N' a) : DatN N' H v d := by
  induction h with
  | non => exact .non
  | bl b => exact .bl b
  | int i => exact .int i
  | str x => exact .str x
  | lst n e l _ ih => exact .lst (w _ _ n e) e l ih
  | tup e l _ ih => exact .tup e l ih
theorem DatN.dat {N : Addr → Prop} {H : Hp} {v : V} {d : PyData} (h : DatN N H v d) : Dat H v d := by
  induction h with
  | non => exact .non
  | bl b => exact .bl b
  | int i => exact .int i
  | str x => exact .str x
  | lst n e l _ ih => exact .lst e l ih
  | tup e l _ ih => exact .tup e l ih
theorem dpAll_of {K : PySem.W.Frag} {H : Hp} : ∀ {xs : List V} {ds : List PyData}, xs.length = ds.length → (∀ (i : Nat) x d, xs[i]? = some x → ds[i]? = some d → Dp K H x d) → DpAll K H xs ds
  | [], [], _, _ => .nil
  | [], _ :: _, e, _ => nomatch e
  | _ :: _, [], e, _ => nomatch e
  | x :: xs, d :: ds, e, h => .cons (h 0 x d rfl rfl) (dpAll_of (Nat.succ.inj e) fun i y c e1 e2 => h (i + 1) y c e1 e2)
theorem DatN.dp {K : PySem.W.Frag} {N : Addr → Prop} {H : Hp} {v : V} {d : PyData} (h : DatN N H v d) : Dp K H v d := by
  induction h with
  | non => exact .non
  | bl b => exact .bl b
  | int i => exact .int i
  | str x => exact .str x
  | lst n e l _ ih => exact .lst (SqL.of e) (dpAll_of l ih)
  | tup e l _ ih => exact .tup (.inl (.inl e)) (dpAll_of l ih)
/-- things one by one as data -/
def EchN (N : Addr → Prop) (H : Hp) (xs : List V) (ds : List PyData) : Prop := xs.length = ds.length ∧ ∀ (i : Nat) x d, xs[i]? = some x → ds[i]? = some d → DatN N H x d
theorem EchN.keep {N : Addr → Prop} {H H' : Hp} {xs : List V} {ds : List PyData} (h : EchN N H xs ds) (k : Kps N H H') : EchN N H' xs ds := ⟨h.1, fun i x d e1 e2 => (h.2 i x d e1 e2).keep k⟩
theorem EchN.same {N : Addr → Prop} {H H' : Hp} {xs : List V} {ds : List PyData} (h : EchN N H xs ds) (s : Same H H') : EchN N H' xs ds := h.keep (.same s)
theorem EchN.weak {N N' : Addr → Prop} {H : Hp} {xs : List V} {ds : List PyData} (h : EchN N H xs ds) (w : ∀ a xs, N a → H a = some (.lst xs) → N' a) : EchN N' H xs ds := ⟨h.1, fun i x d e1 e2 => (h.2 i x d e1 e2).weak w⟩
theorem EchN.nil {N : Addr → Prop} {H : Hp} : EchN N H [] [] := ⟨rfl, fun _ _ _ e => nomatch e⟩
theorem EchN.cons {N : Addr → Prop} {H : Hp} {x : V} {d : PyData} {xs : List V} {ds : List PyData} (h : DatN N H x d) (hr : EchN N H xs ds) : EchN N H (x :: xs) (d :: ds) :=
  ⟨congrArg (· + 1) hr.1, fun i y e e1 e2 => by
    cases i with
    | zero => cases e1; cases e2; exact h
    | succ i => exact hr.2 i y e e1 e2⟩
theorem EchN.one {N : Addr → Prop} {H : Hp} {x : V} {d : PyData} (h : DatN N H x d) : EchN N H [x] [d] := .cons h .nil
theorem getElem?_two {α β : Type} {xs ys : List α} {us ws : List β} (l : xs.length = us.length) {i : Nat} {x : α} {u : β} (e1 : (xs ++ ys)[i]? = some x) (e2 : (us ++ ws)[i]? = some u) : (xs[i]? = some x ∧ us[i]? = some u) ∨ (ys[i - xs.length]? = some x ∧ ws[i - xs.length]? = some u) := by
  by_cases hi : i < xs.length
  · rw [List.getElem?_append_left hi] at e1
    rw [List.getElem?_append_left (by omega)] at e2
    exact .inl ⟨e1, e2⟩
  · rw [List.getElem?_append_right (by omega)] at e1 e2
    rw [← l] at e2
    exact .inr ⟨e1, e2⟩
theorem EchN.app {N : Addr → Prop} {H : Hp} {xs ys : List V} {ds es : List PyData} (h : EchN N H xs ds) (h' : EchN N H ys es) : EchN N H (xs ++ ys) (ds ++ es) :=
  ⟨by rw [List.length_append, List.length_append, h.1, h'.1], fun i v p e1 e2 => (getElem?_two h.1 e1 e2).elim (fun z => h.2 i v p z.1 z.2) (fun z => h'.2 _ v p z.1 z.2)⟩
theorem EchN.snoc {N : Addr → Prop} {H : Hp} {xs : List V} {ds : List PyData} {x : V} {d : PyData} (h : EchN N H xs ds) (h' : DatN N H x d) : EchN N H (xs ++ [x]) (ds ++ [d]) := h.app (.one h')
theorem EchN.at {N : Addr → Prop} {H : Hp} {xs : List V} {ds : List PyData} {i : Nat} {x : V} (h : EchN N H xs ds) (e : xs[i]? = some x) : ∃ d, ds[i]? = some d ∧ DatN N H x d := by
  have hi : i < ds.length := by rw [← h.1]; exact (List.getElem?_eq_some_iff.mp e).1
  exact ⟨_, List.getElem?_eq_getElem hi, h.2 i x _ e (List.getElem?_eq_getElem hi)⟩
theorem EchN.atM {α : Type} {N : Addr → Prop} {H : Hp} {xs : List V} {f : α → PyData} {ys : List α} {i : Nat} {x : V} (h : EchN N H xs (ys.map f)) (e : xs[i]? = some x) : ∃ y, ys[i]? = some y ∧ DatN N H x (f y) := by
  obtain ⟨d, e1, e2⟩ := h.at e
  rw [List.getElem?_map] at e1
  cases h : ys[i]? with
  | none => rw [h] at e1; cases e1
  | some y => rw [h] at e1; cases e1; exact ⟨y, rfl, e2⟩
theorem DatN.list {N : Addr → Prop} {H : Hp} {v : V} {ds : List PyData} (h : DatN N H v (.list ds)) : ∃ a xs, v = .ref a ∧ N a ∧ H a = some (.lst xs) ∧ EchN N H xs ds := by
  cases h with
  | lst n e l r => exact ⟨_, _, rfl, n, e, l, r⟩
theorem DatN.tuple {N : Addr → Prop} {H : Hp} {v : V} {ds : List PyData} (h : DatN N H v (.tuple ds)) : ∃ a xs, v = .ref a ∧ H a = some (.tup xs) ∧ EchN N H xs ds := by
  cases h with
  | tup e l r => exact ⟨_, _, rfl, e, l, r⟩
theorem EchN.lst {N : Addr → Prop} {H : Hp} {a : Addr} {xs : List V} {ds : List PyData} (h : EchN N H xs ds) (n : N a) (e : H a = some (.lst xs)) : DatN N H (.ref a) (.list ds) := .lst n e h.1 h.2
theorem EchN.tup {N : Addr → Prop} {H : Hp} {a : Addr} {xs : List V} {ds : List PyData} (h : EchN N H xs ds) (e : H a = some (.tup xs)) : DatN N H (.ref a) (.tuple ds) := .tup e h.1 h.2
theorem EchN.inv {N : Addr → Prop} {H : Hp} {xs : List V} {d : PyData} {ds : List PyData} (h : EchN N H xs (d :: ds)) : ∃ x xs', xs = x :: xs' ∧ DatN N H x d ∧ EchN N H xs' ds := by
  cases xs with
  | nil => exact nomatch h.1
  | cons x xs => exact ⟨x, xs, rfl, h.2 0 x d rfl rfl, Nat.succ.inj h.1, fun i y e e1 e2 => h.2 (i + 1) y e e1 e2⟩
theorem EchN.inv0 {N : Addr → Prop} {H : Hp} {xs : List V} (h : EchN N H xs []) : xs = [] := List.eq_nil_of_length_eq_zero h.1
theorem DatN.inv_int {N : Addr → Prop} {H : Hp} {v : V} {i : Int} (h : DatN N H v (.int i)) : v = .int i := by cases h; rfl
theorem DatN.inv_str {N : Addr → Prop} {H : Hp} {v : V} {x : Str} (h : DatN N H v (.str x)) : v = .str x := by cases h; rfl
theorem DatN.inv_non {N : Addr → Prop} {H : Hp} {v : V} (h : DatN N H v .none) : v = .non := by cases h; rfl
theorem DatN.inv_bl {N : Addr → Prop} {H : Hp} {v : V} {b : Bool} (h : DatN N H v (.bool b)) : v = .bl b := by cases h; rfl
theorem echN_ints {N : Addr → Prop} {H : Hp} (ns : List Int) : EchN N H (ns.map V.int) (ns.map PyData.int) := ⟨by rw [List.length_map, List.length_map], fun i x d e1 e2 => by
  rw [List.getElem?_map] at e1 e2
  cases h : ns[i]? with
  | none => rw [h] at e1; cases e1
  | some n =>
    rw [h] at e1 e2
    cases e1
    cases e2
    exact .int n⟩
theorem echN_strs {N : Addr → Prop} {H : Hp} (ns : List Str) : EchN N H (ns.map V.str) (ns.map PyData.str) := ⟨by rw [List.length_map, List.length_map], fun i x d e1 e2 => by
  rw [List.getElem?_map] at e1 e2
  cases h : ns[i]? with
  | none => rw [h] at e1; cases e1
  | some n =>
    rw [h] at e1 e2
    cases e1
    cases e2
    exact .str n⟩
theorem EchN.ints {N : Addr → Prop} {H : Hp} : ∀ {xs : List V} {ns : List Int}, EchN N H xs (ns.map PyData.int) → xs = ns.map V.int
  | _, [], h => h.inv0
  | _, n :: r, h => by
    obtain ⟨x, xs', rfl, h1, h2⟩ := EchN.inv h
    rw [h1.inv_int, EchN.ints h2]
    rfl
theorem EchN.strs {N : Addr → Prop} {H : Hp} : ∀ {xs : List V} {ns : List Str}, EchN N H xs (ns.map PyData.str) → xs = ns.map V.str
  | _, [], h => h.inv0
  | _, n :: r, h => by
    obtain ⟨x, xs', rfl, h1, h2⟩ := EchN.inv h
    rw [h1.inv_str, EchN.strs h2]
    rfl
/-- pairs of whole numbers -/
theorem _root_.GP.Prs.ech {N : Addr → Prop} {H : Hp} {us : List V} {ps : List (Int × Int)} (h : Prs H us ps) : EchN N H us (ps.map pairD) := ⟨by rw [List.length_map]; exact h.1, fun i x d e1 e2 => by
  obtain ⟨p, a, ep, rfl, ea⟩ := prs_at h e1
  rw [List.getElem?_map, ep] at e2
  cases e2
  exact EchN.tup (.cons (.int _) (.one (.int _))) ea⟩
theorem EchN.prs {N : Addr → Prop} {H : Hp} {us : List V} {ps : List (Int × Int)} (h : EchN N H us (ps.map pairD)) : Prs H us ps := ⟨by have := h.1; rwa [List.length_map] at this, fun i p ep => by
  have hi : i < us.length := by
    rw [h.1, List.length_map]
    exact (List.getElem?_eq_some_iff.mp ep).1
  obtain ⟨y, e1, e2⟩ := h.atM (List.getElem?_eq_getElem hi)
  rw [ep] at e1
  cases e1
  obtain ⟨a, xs, ev, ea, r⟩ := e2.tuple
  obtain ⟨x1, r1, rfl, d1, r2⟩ := r.inv
  obtain ⟨x2, r3, rfl, d2, r4⟩ := r2.inv
  rw [r4.inv0, d1.inv_int, d2.inv_int] at ea
  exact ⟨a, by rw [List.getElem?_eq_getElem hi, ev], ea⟩⟩
/-- new since then -/
abbrev NewIn (H : Hp) : Addr → Prop := fun a => H a = none
def setD (ps : List (Int × Int)) : PyData := .list (ps.map pairD)
/-! ### what can be shown -/
structure Shw (n w : Nat) (d : PyData) : Prop where
  sh : d.showable = true
  nd : d.hasDict = false
  dp : d.depth ≤ n
  ls : d.leavesShort 40 = true
  wt : d.weight ≤ w
theorem Shw.mono {n w n' w' : Nat} {d : PyData} (h : Shw n w d) (h1 : n ≤ n') (h2 : w ≤ w') : Shw n' w' d := ⟨h.sh, h.nd, Nat.le_trans h.dp h1, h.ls, Nat.le_trans h.wt h2⟩
theorem Shw.int {n : Nat} {i : Int} (h : i.natAbs < 10 ^ 39) : Shw n 131 (.int i) := by
  refine ⟨?_, by rw [PyData.hasDict], by rw [PyData.depth]; omega, ?_, ?_⟩
  · rw [PyData.showable]
    by_cases z : i.natAbs = 0
    · rw [z]; decide
    · exact decide_eq_true (Nat.lt_trans ((Nat.log2_lt (k := 130) z).mpr (Nat.lt_trans h (by decide))) (by decide))
  · rw [PyData.leavesShort]
    have e := int_text_length_le10 (k := 39) (by decide) h
    refine decide_eq_true ?_
    show (Str.ofString (toString i)).length ≤ 40
    rw [PySem.ofString_length]
    exact e
  · rw [PyData.weight]
    split
    · omega
    · by_cases z : i.natAbs = 0
      · rw [z]; decide
      · have : i.natAbs.log2 < 130 := (Nat.log2_lt z).mpr (Nat.lt_trans h (by decide))
        omega
theorem Shw.str {n w : Nat} {x : Str} (h : PyData.strOk x = true) (hl : x.length ≤ w) : Shw n w (.str x) := by
  refine ⟨by rw [PyData.showable], by rw [PyData.hasDict], by rw [PyData.depth]; omega, ?_, by rw [PyData.weight]; exact hl⟩
  rw [PyData.leavesShort, List.all_eq_true]
  intro c hc
  have h' : x.cps.all (· < 0x110000) = true := h
  rw [Array.all_eq_true'] at h'
  have := of_decide_eq_true (h' c (by simpa using hc))
  exact decide_eq_true (Nat.lt_trans this (by decide))
theorem Shw.none {n w : Nat} : Shw n w .none := ⟨by rw [PyData.showable], by rw [PyData.hasDict], by rw [PyData.depth]; omega, by rw [PyData.leavesShort], by rw [PyData.weight]; omega⟩
theorem Shw.bool {n w : Nat} {b : Bool} : Shw n w (.bool b) := ⟨by rw [PyData.showable], by rw [PyData.hasDict], by rw [PyData.depth]; omega, by rw [PyData.leavesShort], by rw [PyData.weight]; omega⟩
theorem shwAll : ∀ {n w : Nat} {ds : List PyData}, (∀ d ∈ ds, Shw n w d) → PyData.showableAll ds = true ∧ PyData.hasDictAll ds = false ∧ PyData.depthAll ds ≤ n ∧ PyData.leavesShortAll 40 ds = true ∧ PyData.weightAll ds ≤ ds.length * (w + 1)
  | n, w, [], _ => by simp [PyData.leavesShortAll, PyData.weightAll, PyData.showableAll, PyData.hasDictAll, PyData.depthAll]
  | n, w, d :: r, h => by
    obtain ⟨g1, g2, g3, g4, g5⟩ := shwAll (ds := r) fun q hq => h q (List.mem_cons_of_mem _ hq)
    obtain ⟨h1, h2, h3, h4, h5⟩ := h d (List.mem_cons_self ..)
    refine ⟨by rw [PyData.showableAll, h1, g1]; rfl, by rw [PyData.hasDictAll, h2, g2]; rfl, by rw [PyData.depthAll]; omega, by rw [PyData.leavesShortAll, h4, g4]; rfl, ?_⟩
    rw [PyData.weightAll, List.length_cons, Nat.succ_mul]
    omega
theorem Shw.list {n w m W : Nat} {ds : List PyData} (h : ∀ d ∈ ds, Shw n w d) (hl : ds.length ≤ m) (hW : m * (w + 1) ≤ W) : Shw (n + 1) W (.list ds) := by
  obtain ⟨g1, g2, g3, g4, g5⟩ := shwAll h
  have := Nat.mul_le_mul_right (w + 1) hl
  exact ⟨by rw [PyData.showable]; exact g1, by rw [PyData.hasDict]; exact g2, by rw [PyData.depth]; omega, by rw [PyData.leavesShort]; exact g4, by rw [PyData.weight]; omega⟩
theorem Shw.tuple {n w m W : Nat} {ds : List PyData} (h : ∀ d ∈ ds, Shw n w d) (hl : ds.length ≤ m) (hW : m * (w + 1) ≤ W) : Shw (n + 1) W (.tuple ds) := by
  obtain ⟨g1, g2, g3, g4, g5⟩ := shwAll h
  have := Nat.mul_le_mul_right (w + 1) hl
  exact ⟨by rw [PyData.showable]; exact g1, by rw [PyData.hasDict]; exact g2, by rw [PyData.depth]; omega, by rw [PyData.leavesShort]; exact g4, by rw [PyData.weight]; omega⟩
theorem Shw.listM {α : Type} {n w m W : Nat} {f : α → PyData} {ys : List α} (h : ∀ y ∈ ys, Shw n w (f y)) (hl : ys.length ≤ m) (hW : m * (w + 1) ≤ W) : Shw (n + 1) W (.list (ys.map f)) :=
  .list (fun d hd => by obtain ⟨y, hy, rfl⟩ := List.mem_map.mp hd; exact h y hy) (by rw [List.length_map]; exact hl) hW
theorem all2 {α : Type} {P : α → Prop} {x y : α} (h1 : P x) (h2 : P y) : ∀ z ∈ [x, y], P z := fun z hz => by
  rcases List.mem_cons.mp hz with e | e
  · rw [e]; exact h1
  · rw [List.mem_singleton.mp e]; exact h2
theorem all3 {α : Type} {P : α → Prop} {x y u : α} (h1 : P x) (h2 : P y) (h3 : P u) : ∀ z ∈ [x, y, u], P z := fun z hz => by
  rcases List.mem_cons.mp hz with e | e
  · rw [e]; exact h1
  · exact all2 h2 h3 z e
theorem Shw.shown {w : Nat} {d : PyData} (h : Shw 8 w d) (hw : w ≤ 390000) : d.showable = true ∧ d.hasDict = false ∧ d.depth ≤ 8 ∧ d.shown.length ≤ sizeLine :=
  ⟨h.sh, h.nd, h.dp, by
    have z := PyData.shown_le 40 (by decide) d h.ls
    have := h.wt
    exact Nat.le_trans z (Nat.le_trans (show (40 + 2) * d.weight + 40 ≤ 16380040 by omega) (by decide))⟩

/-! ### comprehensions, by what they make -/
/-- a thing's truth, as a test -/
def tTru (K : PySem.W.Frag) (te : TE) : TT := fun σ H Q => te σ H fun x H' => ∃ k, TruV K x H' k ∧ Q k H'
abbrev LcW (J : It) (g : TG) (tt : TT) (te : TE) (vs : List Nat) (σ : L2.St) (D : Addr) (Qd : Hp → Prop) (H1 : Hp) : Prop := ∃ W : Nat → Nat → Hp → Prop, (∃ m, W 0 m (upd H1 D (.lst []))) ∧ ∀ i m H, W i m H →
  (J.stop i H ∧ Qd H) ∨ (J.go i H ∧ ∃ Nx : Hp → Prop, (∀ H', Nx H' → ∃ m', m' < m ∧ W (i + 1) m' H') ∧ ∀ x H', J.yld i H x H' → g x (wipe σ vs) H' fun σ2 H2 => wipe σ2 vs = wipe σ vs ∧ tt σ2 H2 fun b H3 => if b = true then
    te σ2 H3 fun y H4 => ∃ acc, H4 D = some (.lst acc) ∧ acc.length < sizeLine ∧ Nx (upd H4 D (.lst (acc ++ [y]))) else Nx H3)
/-- each item makes something new, all else stays -/
theorem lc_new {J : It} {n : Nat} {G : Hp → Prop} {Y : Nat → Hp → V → Hp → Prop} (w : Walk J n G Y) {g : TG} {tt : TT} {te : TE} {vs : List Nat} {σ : L2.St} {H1 : Hp} {D : Addr} {Qd : Hp → Prop} (ds : List PyData) (nD : H1 D = none) (hn : ds.length = n) (hz : n ≤ 1000) (hG : ∀ H, Same H1 H → G H)
    (turn : ∀ i x d H H' (Kt : V → Hp → Prop) (Kn : Hp → Prop), ds[i]? = some d → Same H1 H → Y i H x H' → (∀ y H4, Same H H4 → DatN (NewIn H) H4 y d → Kt y H4) → g x (wipe σ vs) H' fun σ2 H2 => wipe σ2 vs = wipe σ vs ∧ tt σ2 H2 fun b H3 => if b = true then te σ2 H3 Kt else Kn H3)
    (fin : ∀ H, Same H1 H → DatN (NewIn H1) H (.ref D) (.list ds) → Qd H) : LcW J g tt te vs σ D Qd H1 := by
  refine lc_it w (fun j H => Same H1 H ∧ ∃ ws, H D = some (.lst ws) ∧ EchN (fun a => H1 a = none ∧ a ≠ D) H ws (ds.take j)) ⟨same_upd nD, [], upd_same, .nil⟩ (fun i H _ p => hG H p.1) (fun i x H H' hi hP hy => ?_) (fun H hP => ?_)
  · obtain ⟨sm, ws, eD, hws⟩ := hP
    have hd : ds[i]? = some ds[i] := List.getElem?_eq_getElem (by omega)
    refine turn i x _ H H' _ _ hd sm hy fun y H4 s4 hd4 => ?_
    have eD4 := s4 _ _ eD
    have hl : ws.length ≤ 1000 := by
      rw [hws.1, List.length_take]
      omega
    have hl' : ws.length < 1000 := by
      rw [hws.1, List.length_take]
      omega
    refine ⟨ws, eD4, Nat.lt_of_lt_of_le hl' (by decide), fun b o e => ?_, ws ++ [y], upd_same, ?_⟩
    · rw [upd_ne (ne_of_none e nD)]
      exact s4 _ _ (sm b o e)
    · rw [List.take_add_one, hd]
      have k : Kps (fun a => H1 a = none ∧ a ≠ D) H4 (upd H4 D (.lst (ws ++ [y]))) := .upd eD4 fun a z => z.2
      refine ((hws.same s4).keep k).snoc (DatN.keep (hd4.weak fun a xs (z : H a = none) e => ⟨sm.free z, fun q => ?_⟩) k)
      rw [q, eD] at z
      cases z
  · obtain ⟨sm, ws, eD, hws⟩ := hP
    rw [List.take_of_length_le (by omega)] at hws
    exact fin H sm ((hws.weak fun a _ z _ => z.1).lst nD eD)
/-- each item makes something new by draws -/
theorem lc_draw {α : Type} (f : α → PyData) (R : Nat → α → Prop) (T : Int) {J : It} {n : Nat} {G : Hp → Prop} {Y : Nat → Hp → V → Hp → Prop} (w : Walk J n G Y) {g : TG} {tt : TT} {te : TE} {vs : List Nat} {σ : L2.St} {H1 : Hp} {D d c : Addr} {t1 : Int} {Qd : Hp → Prop} (S1 : StAt H1 d c t1) (nD : H1 D = none) (hz : n ≤ 1000) (hG : ∀ H, Kp d c H1 H → G H)
    (turn : ∀ i x H H' t (Kt : V → Hp → Prop) (Kn : Hp → Prop), i < n → t1 ≤ t → t ≤ t1 + T * (i : Int) → StAt H d c t → Kp d c H1 H → Y i H x H' → (∀ z y t' H4, R i z → DatN (NewIn H) H4 y (f z) → t ≤ t' → t' ≤ t + T → StAt H4 d c t' → Kp d c H H4 → Kt y H4) →
      g x (wipe σ vs) H' fun σ2 H2 => wipe σ2 vs = wipe σ vs ∧ tt σ2 H2 fun b H3 => if b = true then te σ2 H3 Kt else Kn H3)
    (fin : ∀ (H : Hp) (t : Int) (zs : List α), zs.length = n → (∀ (i : Nat) z, zs[i]? = some z → R i z) → t1 ≤ t → t ≤ t1 + T * (n : Int) → StAt H d c t → Kp d c H1 H → DatN (NewIn H1) H (.ref D) (.list (zs.map f)) → Qd H) : LcW J g tt te vs σ D Qd H1 := by
  have off := S1.off nD
  refine lc_it w (fun j H => ∃ (t : Int) (ws : List V) (zs : List α), H D = some (.lst ws) ∧ EchN (fun a => H1 a = none ∧ a ≠ D) H ws (zs.map f) ∧ zs.length = j ∧ (∀ (i : Nat) z, zs[i]? = some z → R i z) ∧ t1 ≤ t ∧ t ≤ t1 + T * (j : Int) ∧ StAt H d c t ∧ Kp d c H1 H)
    ⟨t1, [], [], upd_same, .nil, rfl, (fun _ _ e => nomatch e), Int.le_refl _, by omega, S1.same (same_upd nD), Kp.same d c (same_upd nD)⟩ (fun i H _ hP => ?_) (fun i x H H' hi hP hy => ?_) (fun H hP => ?_)
  · obtain ⟨_, _, _, _, _, _, _, _, _, _, k⟩ := hP
    exact hG H k
  · obtain ⟨t, ws, zs, eD, hws, hzl, hR, t0, t2, hS, k⟩ := hP
    refine turn i x H H' t _ _ hi t0 t2 hS k hy fun z y t' H4 hz' hd4 u0 u1 hS4 k4 => ?_
    have eD4 := k4 _ _ off.1 off.2 eD
    have hwl : ws.length = i := by rw [hws.1, List.length_map, hzl]
    have kk : Kps (fun a => H1 a = none ∧ a ≠ D) H4 (upd H4 D (.lst (ws ++ [y]))) := .upd eD4 fun a z => z.2
    have k1 : Kps (fun a => H1 a = none ∧ a ≠ D) H H4 := .kp k4 hS fun a z q => by
      obtain ⟨cs, ec, _⟩ := S1.cells
      rw [q, ec] at z
      exact nomatch z.1
    refine ⟨ws, eD4, Nat.lt_of_lt_of_le (show ws.length < 1000 by omega) (by decide), t', ws ++ [y], zs ++ [z], upd_same, ?_, by rw [List.length_append, hzl]; rfl, fun j q e => ?_, by omega, ?_, hS4.upd off.1 off.2, fun b o b1 b2 e => ?_⟩
    · rw [List.map_append]
      refine ((hws.keep k1).keep kk).snoc (DatN.keep (hd4.weak fun a xs (z : H a = none) e => ⟨?_, fun q => ?_⟩) kk)
      · cases e1 : H1 a with
        | none => rfl
        | some o =>
          by_cases z1 : a = d
          · rw [z1, hS.dict] at z; cases z
          · by_cases z2 : a = c
            · obtain ⟨cs, ec, _⟩ := hS.cells
              rw [z2, ec] at z; cases z
            · have := k a o z1 z2 e1
              rw [this] at z
              cases z
      · rw [q, eD] at z
        cases z
    · by_cases hj : j < zs.length
      · rw [List.getElem?_append_left hj] at e
        exact hR j q e
      · rw [List.getElem?_append_right (by omega)] at e
        have hj0 : j - zs.length < 1 := (List.getElem?_eq_some_iff.mp e).1
        have ej : j = i := by omega
        subst ej
        rw [hzl, Nat.sub_self] at e
        cases e
        exact hz'
    · have : T * ((i + 1 : Nat) : Int) = T * (i : Int) + T := by
        rw [Int.natCast_add, Int.mul_add]
        omega
      omega
    · rw [upd_ne (ne_of_none e nD)]
      exact k4 b o b1 b2 (k b o b1 b2 e)
  · obtain ⟨t, ws, zs, eD, hws, hzl, hR, t0, t2, hS, k⟩ := hP
    exact fin H t zs hzl hR t0 t2 hS k ((hws.weak fun a _ z _ => z.1).lst nD eD)
/-- those items of which this holds -/
theorem lc_keep {K : PySem.W.Frag} {a : Addr} {xs : List V} (pb : V → Bool) {g : TG} {tt : TT} {te : TE} {vs : List Nat} {σ : L2.St} {H1 : Hp} {D : Addr} {Qd : Hp → Prop} (nD : H1 D = none) (ea : H1 a = some (.lst xs)) (hz : xs.length ≤ 1000)
    (turn : ∀ (i : Nat) (x : V) (H : Hp) (Kt : V → Hp → Prop) (Kn : Hp → Prop), xs[i]? = some x → Same H1 H → (∀ H4, Same H H4 → pb x = true → Kt x H4) → (∀ H4, Same H H4 → pb x = false → Kn H4) → g x (wipe σ vs) H fun σ2 H2 => wipe σ2 vs = wipe σ vs ∧ tt σ2 H2 fun b H3 => if b = true then te σ2 H3 Kt else Kn H3)
    (fin : ∀ H, Same H1 H → H D = some (.lst (xs.filter pb)) → Qd H) : LcW (Itl K a) g tt te vs σ D Qd H1 := by
  refine lc_it walk_list (fun j H => Same H1 H ∧ H D = some (.lst ((xs.take j).filter pb))) ⟨same_upd nD, upd_same⟩ (fun i H _ p => SqL.of (p.1 _ _ ea)) (fun i x H H' hi hP hy => ?_) (fun H hP => ?_)
  · obtain ⟨sm, eD⟩ := hP
    obtain ⟨rfl, hx⟩ := hy
    have et : (xs.take (i + 1)).filter pb = (xs.take i).filter pb ++ (if pb x = true then [x] else []) := by
      rw [List.take_add_one, hx, List.filter_append]
      by_cases c : pb x = true
      · rw [if_pos c]
        show _ ++ List.filter pb [x] = _
        rw [List.filter_cons_of_pos c]
        rfl
      · rw [if_neg c]
        show _ ++ List.filter pb [x] = _
        rw [List.filter_cons_of_neg c]
        rfl
    have hl : ((xs.take i).filter pb).length ≤ i := Nat.le_trans (List.length_filter_le ..) (by rw [List.length_take]; omega)
    refine turn i x H' _ _ hx sm (fun H4 s4 c => ?_) (fun H4 s4 c => ?_)
    · refine ⟨_, s4 _ _ eD, Nat.lt_of_lt_of_le (show _ < 1000 by omega) (by decide), fun b o e => ?_, ?_⟩
      · rw [upd_ne (ne_of_none e nD)]
        exact s4 _ _ (sm b o e)
      · rw [upd_same, et, if_pos c]
    · refine ⟨sm.trans s4, ?_⟩
      rw [et, if_neg (by rw [c]; decide), List.append_nil]
      exact s4 _ _ eD
  · obtain ⟨sm, eD⟩ := hP
    rw [List.take_length] at eD
    exact fin H sm eD
theorem lc_new_seq {K : PySem.W.Frag} {a : Addr} {xs : List V} {g : TG} {tt : TT} {te : TE} {vs : List Nat} {σ : L2.St} {H1 : Hp} {Qd : Addr → Hp → Prop} (hq : SqH H1 a xs) (ds : List PyData) (hn : ds.length = xs.length) (hz : xs.length ≤ 1000)
    (turn : ∀ (i : Nat) (x : V) (d : PyData) (H : Hp) (Kt : V → Hp → Prop) (Kn : Hp → Prop), xs[i]? = some x → ds[i]? = some d → Same H1 H → (∀ y H4, Same H H4 → DatN (NewIn H) H4 y d → Kt y H4) → g x (wipe σ vs) H fun σ2 H2 => wipe σ2 vs = wipe σ vs ∧ tt σ2 H2 fun b H3 => if b = true then te σ2 H3 Kt else Kn H3)
    (fin : ∀ D H, H1 D = none → Same H1 H → DatN (NewIn H1) H (.ref D) (.list ds) → Qd D H) :
    ((∃ xs, SqL K H1 a xs) ∧ ∀ D, H1 D = none → LcR (Itl K a) g tt te vs σ D Qd H1) ∨ ((∃ xs, SqT K H1 a xs) ∧ ∀ D, H1 D = none → LcR (Itt K a) g tt te vs σ D Qd H1) := by
  rcases hq with h | h
  · exact .inl ⟨⟨xs, SqL.of h⟩, fun D nD => lc_new (walk_list (xs := xs)) ds nD hn hz (fun H s => SqL.of (s _ _ h)) (fun i x d H H' Kt Kn hd sm hy k => by obtain ⟨rfl, hx⟩ := hy; exact turn i x d H' Kt Kn hx hd sm k) (fun H s d => fin D H nD s d)⟩
  · exact .inr ⟨⟨xs, .inl (.inl h)⟩, fun D nD => lc_new (walk_tup (xs := xs)) ds nD hn hz (fun H s => .inl (.inl (s _ _ h))) (fun i x d H H' Kt Kn hd sm hy k => by obtain ⟨rfl, hx⟩ := hy; exact turn i x d H' Kt Kn hx hd sm k) (fun H s d => fin D H nD s d)⟩
theorem lc_new_list {K : PySem.W.Frag} {a : Addr} {xs : List V} {g : TG} {tt : TT} {te : TE} {vs : List Nat} {σ : L2.St} {H1 : Hp} {D : Addr} {Qd : Hp → Prop} (nD : H1 D = none) (hq : H1 a = some (.lst xs)) (ds : List PyData) (hn : ds.length = xs.length) (hz : xs.length ≤ 1000)
    (turn : ∀ (i : Nat) (x : V) (d : PyData) (H : Hp) (Kt : V → Hp → Prop) (Kn : Hp → Prop), xs[i]? = some x → ds[i]? = some d → Same H1 H → (∀ y H4, Same H H4 → DatN (NewIn H) H4 y d → Kt y H4) → g x (wipe σ vs) H fun σ2 H2 => wipe σ2 vs = wipe σ vs ∧ tt σ2 H2 fun b H3 => if b = true then te σ2 H3 Kt else Kn H3)
    (fin : ∀ H, Same H1 H → DatN (NewIn H1) H (.ref D) (.list ds) → Qd H) : LcW (Itl K a) g tt te vs σ D Qd H1 :=
  lc_new (walk_list (xs := xs)) ds nD hn hz (fun H s => SqL.of (s _ _ hq)) (fun i x d H H' Kt Kn hd sm hy k => by obtain ⟨rfl, hx⟩ := hy; exact turn i x d H' Kt Kn hx hd sm k) fin

open LamX
/-! ### sorted(xs, key=lambda a: ..) -/
/-- the names of such a lambda: its parameter, captured ones, the module's -/
structure LamP (sc scope : Scope) (a : Str) : Prop where
  kind : scope.kind = .function
  co : scope.isCoroutine = false
  gen : scope.isGenerator = false
  par : scope.names.lookup a = some .local
  own : ∀ y ∈ scope.names, y.2 ≠ .cell
  free : ∀ y ∈ scope.names, y.2 = .free → sc.names.lookup y.1 = some .cell ∨ sc.names.lookup y.1 = some .free
def lamPB (sc scope : Scope) (a : Str) : Bool :=
  decide (scope.kind = .function) && !scope.isCoroutine && !scope.isGenerator && decide (scope.names.lookup a = some .local) && scope.names.all fun y => !decide (y.2 = .cell) && (!decide (y.2 = .free) || decide (sc.names.lookup y.1 = some .cell) || decide (sc.names.lookup y.1 = some .free))
theorem lamP_by {sc scope : Scope} {a : Str} (h : lamPB sc scope a = true) : LamP sc scope a := by
  unfold lamPB at h
  simp only [Bool.and_eq_true, Bool.or_eq_true, Bool.not_eq_true', decide_eq_true_eq, decide_eq_false_iff_not, List.all_eq_true] at h
  obtain ⟨⟨⟨⟨h1, h2⟩, h3⟩, h4⟩, h5⟩ := h
  refine ⟨h1, h2, h3, h4, fun y hy => (h5 y hy).1, fun y hy e => ?_⟩
  rcases (h5 y hy).2 with (z | z) | z
  · exact absurd e z
  · exact .inl z
  · exact .inr z
/-- the table of lambdas at P stands, all else is kept -/
def TbL (P : Addr) (q : Str) (H H2 : Hp) : Prop := TabS H2 P q ∧ ∀ b o, H b = some o → (∀ ps, o ≠ .tbl ps) → H2 b = some o
/-- what the body must tell: run in the lambda's frame, it gives the key of what the parameter holds -/
def KeyBody (X : Cx) (scope : Scope) (a : Str) (body : Expr) (Kf : L2.St → Hp → V → PyData → Prop) : Prop :=
  ∀ (pins : List (Addr × Obj)) (σ : L2.St) (H : Hp) (s s1 : Shared) (A : Around) (L f c' : Addr) (v : Value) (x : V) (d : PyData), Inv X pins σ H s → (∀ b o, s.heap.get? b = some o → s1.heap.get? b = some o) → s1.heap.Ns L (fun y => [(a, v)].lookup y) →
    RelV x v → Kf σ H x d → wpAny (model X.prog X.w) A (eval body (lamEnv X scope L f c')) (PySem.W.KeyPure d s1) (fun _ _ => False) s1
def tSortL (K : PySem.W.Frag) (P : Addr) (q : Str) (Kf : L2.St → Hp → V → PyData → Prop) (t : TA) : TE := fun σ H Q => t σ H fun vs H1 => TabS H1 P q ∧ ∃ (a : Addr) (xs : List V) (k : V → PyData), vs = [.ref a] ∧ SqL K H1 a xs ∧
  PySem.W.AllAlike (xs.map k) ∧ PySem.W.Sortable (xs.map k) ∧ (∀ x ∈ xs, (k x).depth ≤ 8) ∧ (∀ x ∈ xs, ∀ H2, TbL P q H1 H2 → Kf σ H2 x (k x)) ∧ ∀ H2 p, TbL P q H1 H2 → H2 p = none → Q (.ref p) (upd H2 p (.lst (xs.mergeSort (PySem.W.dataLe false k))))
theorem each_vals : ∀ {xs : List V} {us : List Value}, Vals xs us → PySem.W.EachIs (fun v x => RelV x v) us xs
  | _, _, .nil => .nil
  | _, _, .cons r t => .cons r (each_vals t)
theorem vals_each : ∀ {xs : List V} {us : List Value}, PySem.W.EachIs (fun v x => RelV x v) us xs → Vals xs us
  | _, _, .nil => .nil
  | _, _, .cons r t => .cons r (vals_each t)
section
variable {X : Cx} {c P : Addr} {e : Expr} {t : TA} {params : Arguments} {body : Expr} {scope : Scope} {a : Str} {lpos kpos p pos : Pos} {Kf : L2.St → Hp → V → PyData → Prop}
theorem pe_sortedL (TB : LamX.TabB X.base X.mg c P) (hcode : X.env.code = .ref c) (hg : Gl X "sorted") (hm : X.mg "sorted" = none) (hr : Room 3 X.A) (ha : PA X [e] t) (hdef : defaultsOf params X.env = ([], [])) (LP : LamP X.env.scope scope a)
    (hbind : ∀ (v pm ctv : Value) (c' : Addr), bindArgs (PySem.W.kla_fn "<lambda>" (X.env.qual ++ "<lambda>") params body scope (cloFrom X.env.cells scope.names []) pm (.ref c') ctv) ⟨[v], []⟩ = pure [(a, v)])
    (hkey : KeyBody X scope a body Kf) (h1 : backTo pos (starEach [e] X.env) = (false, eval e X.env) :: backTo pos (starEach [] X.env) := by rfl) (h2 : (backTo pos (starEach [e] X.env)).any (·.1) = false := by rfl) :
    PE X (.Call (.Name "sorted" p) [e] [⟨some "key", .Lambda params body scope lpos, kpos⟩] pos) (tSortL X.K P (X.env.qual ++ "<lambda>") Kf t) := by
  refine ⟨fun pins s σ H Q I h => ?_⟩
  refine wpAny_Call_Name_kw (ld_blt I hg hm (show bootBuiltins "sorted" = some (.builtin "sorted") by decide +kernel) ?_ (by decide) (by decide))
  refine PyProof.Rows.callWith_kw (thn (ha.run pos pins s σ H _ I h) fun us s1 ⟨vs, H1, I1, r1, hT, aL, xs, k, ev, hS, hal, hso, hdp, hkf, q1⟩ => ?_) h1 h2 rfl rfl
  subst ev
  obtain rfl := Vals.ref1 r1
  show wpAny _ _ (evalAll [do let v ← eval (.Lambda params body scope lpos) X.env; standAt pos; pure v]) _ _ s1
  have hfree : ∀ y ∈ scope.names, y.2 = .free → ∃ c, X.env.cells.lookup y.1 = some c := fun y hy e => by
    rcases LP.free y hy e with z | z
    · exact I.ok.has _ (.inl z)
    · exact I.ok.has _ (.inr z)
  refine wpAny_evalAll_cons (wpAny_bind (lam_make2 (T := [(P, X.env.qual ++ "<lambda>")]) I1 TB hcode (List.mem_cons_self ..) (fun p hp _ => by rw [List.mem_singleton.mp hp]) (fun p hp => by rw [List.mem_singleton.mp hp]; exact hT) hdef hfree
    fun f c' pm ctv H2 s2 I2 x2 T2 hf nf ff hc => wpAny_bind (wpAny_standAt (wpAny_pure (wpAny_evalAll_nil ?_)))))
  have tb2 : TbL P (X.env.qual ++ "<lambda>") H1 H2 := ⟨T2 _ (List.mem_cons_self ..), x2⟩
  have hS2 : SqL X.K H2 aL xs := by
    rcases hS with z | z
    · rcases z with z | ⟨o, z⟩
      · exact .inl (.inl (x2 _ _ z (fun _ w => nomatch w)))
      · exact .inl (.inr ⟨o, x2 _ _ z (fun _ w => nomatch w)⟩)
    · exact .inr z
  obtain ⟨its, rv, pl, hz⟩ := I2.list hS2
  show wpAny _ _ (call (.builtin "sorted") [.ref aL] [(Str.ofString "key", .ref f)]) _ _ s2
  have hun := hr.un
  refine PySem.W.sorted_key_data (R := fun v x => RelV x v) (bs := xs) (vs := its) (b := false) k pl.isList (each_vals rv) hal hso hz (fun x hx => by have := hdp x hx; omega) (PyProof.Rows.ksk_s1 _ _) (fun _ => PyProof.Rows.ksk_l1 _ _) (fun x => PyProof.Rows.ksk_t1 f x) (fun v x hR hx h tk kp => ?_) (fun out c h' tk kp n0 ho hl eo => ?_)
  · have I3 : Inv X pins σ H2 { s2 with heap := h, toks := tk } := I2.kept kp
    have hf3 := kp _ _ hf
    obtain ⟨⟨oc, vs', t', hoc, hdc, hvc⟩, _, _⟩ := I2.hok c' _ hc
    have hr2 : Room 1 X.A.in1.in1 := hr.in1.in1
    refine wpAny_call (codeAny_mono (R := fun r s' => ∃ u, r = .ok (.ret u) ∧ PySem.W.KeyPure (k x) { s2 with heap := h, toks := tk } u s') ?_ fun r s' hq => ?_)
    · refine PySem.W.kla_callFunE (by have := hr2.dp; omega) hf3 rfl LP.co LP.gen rfl ⟨c', oc, vs', t', rfl, kp _ _ hoc, hdc, hvc⟩ ?_
      rw [hbind]
      refine wpAny_pure (wpAny_newFunctionEnv (fun y hy => LP.own y hy) (fun y hy => by rw [List.mem_singleton.mp hy]; exact LP.par) (fun h₁ hns hsb => ⟨I3.nolimit.fresh _ hsb, ?_⟩) LP.kind)
      have kp1 : ∀ b o, h.get? b = some o → h₁.get? b = some o := fun b o e => hsb.extBut b o (Nat.ne_of_lt (Heap.lt_size e)) (Heap.get?_push_of_some _ e)
      show codeAny _ _ (.expr body (lamEnv X scope h.objs.size f c')) _ _
      refine PySem.W.kla_codeExpr (wpAny_mono (hkey pins σ H2 { s2 with heap := h, toks := tk } { s2 with heap := h₁, toks := tk + 1 } _ h.objs.size f c' v x (k x) I3 kp1 hns hR (hkf x hx H2 tb2)) (fun u s' hq => ?_) fun _ _ z => z.elim)
      obtain ⟨h5, tk5, rfl, k5, rd⟩ := hq
      exact ⟨u, rfl, h5, tk5, rfl, fun b o e => k5 b o (kp1 b o e), rd⟩
    · obtain ⟨u, rfl, hk⟩ := hq
      exact hk
  · have hlen : (xs.mergeSort (PySem.W.dataLe false k)).length ≤ sizeLine := by rw [List.length_mergeSort]; exact hz
    have np : H2 (s2.heap.objs.size + 1) = none := I2.hok.fresh (Nat.le_succ _)
    exact ⟨.ref _, upd H2 (s2.heap.objs.size + 1) (.lst (xs.mergeSort (PySem.W.dataLe false k))), I2.laid (t' := tk) kp (Nat.le_succ _) ⟨hlen, _, c, vals_each eo, ho⟩, rfl, q1 H2 _ tb2 np⟩
end

/-- an expression that changes nothing but the count of tokens -/
def Gv (prog : Program) (w : World) (A : Around) (env : Env) (e : Expr) (s : Shared) (R : Value → Prop) : Prop := ∀ (tk0 : Nat) (Q : Value → Shared → Prop) (E : Value → Shared → Prop), (∀ u tk, R u → Q u { s with toks := tk }) → wpAny (model prog w) A (eval e env) Q E { s with toks := tk0 }
section
variable {prog : Program} {w : World} {A : Around} {env : Env} {s : Shared} {e b : Expr} {pos : Pos}
theorem gv_int {i : Int} {j : Nat} : Gv prog w A env (.Constant (.int i) j pos) s (fun u => ∃ t, u = .int i t) := fun _ _ _ h => wpAny_Constant_int (h _ _ ⟨_, rfl⟩)
theorem gv_neg {i : Int} (ha : Gv prog w A env e s (fun u => ∃ t, u = .int i t)) : Gv prog w A env (.UnaryOp .USub e pos) s (fun u => ∃ t, u = .int (-i) t) := fun tk0 Q E h =>
  PyProof.Rows.UnaryOp_ (ha tk0 _ _ fun u tk ⟨t, e⟩ => by rw [e]; exact neg_int (h _ _ ⟨_, rfl⟩))
theorem gv_loc {x : Str} {m : Str → Option Value} {v : Value} (hk : env.scope.kind = .function) (hl : env.kindOf x = some .local) (hn : s.heap.Ns env.locals m) (hv : m x = some v) (hd : (x == ("__debug__" : Str)) = false := by decide) : Gv prog w A env (.Name x pos) s (fun u => u = v) := fun tk0 Q E h =>
  wpAny_Name (wpAny_loadName_local (s := { s with toks := tk0 }) hk hl hn hv (h v tk0 rfl)) hd
theorem gv_free {x : Str} {c : Addr} {v : Value} (hk : env.scope.kind = .function) (hl : env.kindOf x = some .free) (hc : env.cells.lookup x = some c) (hv : s.heap.IsCell c (some v)) (hd : (x == ("__debug__" : Str)) = false := by decide) (hcd : (x == ("__classdict__" : Str)) = false := by decide) : Gv prog w A env (.Name x pos) s (fun u => u = v) := fun tk0 Q E h =>
  wpAny_Name (wpAny_loadName_free (s := { s with toks := tk0 }) hk hl hc hv (h v tk0 rfl) hcd) hd
theorem gv_ixT {t : Addr} {its : List Value} {i : Int} {v : Value} (ha : Gv prog w A env e s (fun u => u = .ref t)) (hb : Gv prog w A env b s (fun u => ∃ t, u = .int i t)) (pl : IsTup s.heap t its.toArray) (hz : its.length ≤ sizeLine) (hv : atI its i = some v) (hs : PlainIx b) : Gv prog w A env (.Subscript e b pos) s (fun u => u = v) := fun tk0 Q E h => by
  refine PyProof.Rows.Subscript_ (ha tk0 _ _ fun u tk eu => hb tk _ _ fun u2 tk2 ⟨t2, e2⟩ => ?_)
  subst eu
  subst e2
  obtain ⟨j, h1, h2, h3, h4, h5⟩ := atI_get hv
  have hn := line63
  exact subscriptTail_builtinR (x := v) pl.typeIs slot_tuple_getitem.lookup (getItem_tuple (s := { s with toks := tk2 }) (j := j) (Q := fun r s' => r = v ∧ Q r s') pl (by omega) (by omega) (by rw [List.size_toArray]; exact h1) (by simpa using h2) ⟨rfl, h v tk2 rfl⟩) (hs _ _)
theorem gv_ixL {t : Addr} {its : List Value} {i : Int} {v : Value} (ha : Gv prog w A env e s (fun u => u = .ref t)) (hb : Gv prog w A env b s (fun u => ∃ t, u = .int i t)) (pl : PlainL s.heap t its.toArray) (hz : its.length ≤ sizeLine) (hv : atI its i = some v) (hs : PlainIx b) : Gv prog w A env (.Subscript e b pos) s (fun u => u = v) := fun tk0 Q E h => by
  refine PyProof.Rows.Subscript_ (ha tk0 _ _ fun u tk eu => hb tk _ _ fun u2 tk2 ⟨t2, e2⟩ => ?_)
  subst eu
  subst e2
  obtain ⟨j, h1, h2, h3, h4, h5⟩ := atI_get hv
  have hn := line63
  by_cases h0 : 0 ≤ i
  · have hj : i.toNat = j := by
      rw [seqIndex_of h0 h5] at h1
      exact Option.some.inj h1
    exact item_listR (s := { s with toks := tk2 }) pl.isList h0 (by omega) (by rw [hj]; simpa using h2) (h v tk2 rfl) (hs _ _)
  · have hj : (i + (its.toArray.size : Int)).toNat = j := by
      rw [seqIndex_neg (by omega) h4] at h1
      rw [List.size_toArray]
      exact Option.some.inj h1
    exact subscriptTail_builtinR (x := v) pl.isList.typeIs slot_list_getitem.lookup
      (wpAny_getItem_list_neg (s := { s with toks := tk2 }) (Q := fun r s' => r = v ∧ Q r s') pl.isList (by omega) (by rw [List.size_toArray] <;> omega) (by omega) (by rw [hj]; simpa using h2) ⟨rfl, h v tk2 rfl⟩) (hs _ _)
end
/-! ### the keys -/
theorem vals_at {xs : List V} {us : List Value} (r : Vals xs us) {i : Int} {x : V} (h : atI xs i = some x) : ∃ u, atI us i = some u ∧ RelV x u := by
  unfold atI at h ⊢
  rw [← r.length]
  cases e : ixN xs.length i with
  | none => rw [e] at h; cases h
  | some j =>
    rw [e] at h
    exact r.get h
section
variable {X : Cx} {scope : Scope} {a : Str} {p1 p2 p3 p4 p5 p6 p7 p8 p9 : Pos} {j1 j2 j3 : Nat}
/-- lambda a: (a[0], a[1]) -/
def KfPair (K : PySem.W.Frag) : L2.St → Hp → V → PyData → Prop := fun _ H x d => ∃ (t : Addr) (xs : List V) (i j : Int), x = .ref t ∧ SqT K H t xs ∧ atI xs 0 = some (.int i) ∧ atI xs 1 = some (.int j) ∧ d = .tuple [.int i, .int j]
theorem key_pair {x1 : Nat} (LP : LamP X.env.scope scope a) (hd : (a == ("__debug__" : Str)) = false) : KeyBody X scope a (.Tuple [.Subscript (.Name a p1) (.Constant (.int 0) j1 p2) p3, .Subscript (.Name a p4) (.Constant (.int 1) j2 p5) p6] x1 p7) (KfPair X.K) := by
  intro pins σ H s s1 A L f c' v x d I kp hn r h
  obtain ⟨t, xs, i, j, rfl, hS, e0, e1, rfl⟩ := h
  have I1 : Inv X pins σ H { s with heap := s1.heap, toks := s.toks } := I.kept kp
  obtain ⟨its, rv, pl, hz⟩ := I1.tuple hS
  obtain ⟨u0, a0, t0, rfl⟩ := vals_at rv e0
  obtain ⟨u1, a1, t1, rfl⟩ := vals_at rv e1
  cases r
  have hz' : its.length ≤ sizeLine := by rw [← rv.length]; exact hz
  have nm : ∀ p, Gv X.prog X.w A (lamEnv X scope L f c') (.Name a p) s1 (fun u => u = .ref t) := fun p => gv_loc LP.kind LP.par hn (by simp) hd
  refine wpAny_Tuple_spliced ?_
  show wpAny _ _ (spliced [(false, eval (.Subscript (.Name a p1) (.Constant (.int 0) j1 p2) p3) (lamEnv X scope L f c')), (false, eval (.Subscript (.Name a p4) (.Constant (.int 1) j2 p5) p6) (lamEnv X scope L f c'))]) _ _ s1
  refine Calls.spliced_cons (gv_ixT (nm p1) gv_int pl hz' a0 (fun _ _ => rfl) s1.toks _ _ fun u tk eu => Calls.spliced_cons (gv_ixT (nm p4) gv_int pl hz' a1 (fun _ _ => rfl) tk _ _ fun u2 tk2 eu2 => Calls.spliced_nil ⟨(by show 2 ≤ sizeLine; decide), ?_⟩))
  subst eu
  subst eu2
  exact ⟨_, tk2, rfl, fun b o e => Heap.get?_push_of_some _ e, .tuple (Heap.get?_push_size _ rfl) rfl rfl (.cons (.int _ _) (.cons (.int _ _) .nil))⟩
/-- what is captured at slot i, as the lambda reads it -/
theorem cap_at {i : Nat} {y : Str} {v : V} {pins : List (Addr × Obj)} {σ : L2.St} {H : Hp} {s : Shared} (I : Inv X pins σ H s) (LP : LamP X.env.scope scope a) (hN : X.N[i]? = some y) (hc : X.env.scope.names.lookup y = some .cell) (hy : scope.names.lookup y = some .free) (hv : σ[i]? = some (some v)) :
    ∃ c u, (cloFrom X.env.cells scope.names []).lookup y = some c ∧ s.heap.IsCell c (some u) ∧ RelV v u := by
  obtain ⟨m, hn, look⟩ := I.loc
  obtain ⟨u, r, l⟩ := look i y v hN hv (.inr (.inl hc))
  rcases l with ⟨z, _⟩ | ⟨_, c, e, hcell⟩
  · rw [show X.env.kindOf y = some .cell from hc] at z
    cases z
  · obtain ⟨c2, h2⟩ := mem_lookup (cloFrom_has (cells := X.env.cells) (acc := []) (PySem.mem_of_lookup hy))
    refine ⟨c2, u, h2, ?_, r⟩
    rcases cloFrom_mem (PySem.mem_of_lookup h2) with hm | ⟨_, w⟩
    · cases hm
    · have w2 : c2 = c := by rw [w, e]; rfl
      rw [w2]
      exact hcell
/-- lambda a: y[a][1], y captured: a list of tuples -/
def KfAt1 (K : PySem.W.Frag) (i : Nat) : L2.St → Hp → V → PyData → Prop := fun σ H x d => ∃ (l t : Addr) (ls ts : List V) (n k : Int), σ[i]? = some (some (.ref l)) ∧ x = .int n ∧ SqL K H l ls ∧ atI ls n = some (.ref t) ∧ SqT K H t ts ∧ atI ts 1 = some (.int k) ∧ d = .int k
theorem key_at1 {i : Nat} {y : Str} (LP : LamP X.env.scope scope a) (hN : X.N[i]? = some y) (hc : X.env.scope.names.lookup y = some .cell) (hy : scope.names.lookup y = some .free) (hd : (a == ("__debug__" : Str)) = false) (hd2 : (y == ("__debug__" : Str)) = false) (hcd : (y == ("__classdict__" : Str)) = false) :
    KeyBody X scope a (.Subscript (.Subscript (.Name y p1) (.Name a p2) p3) (.Constant (.int 1) j1 p4) p5) (KfAt1 X.K i) := by
  intro pins σ H s s1 A L f c' v x d I kp hn r h
  obtain ⟨l, t, ls, ts, n, k, hv, rfl, hS, e0, hT, e1, rfl⟩ := h
  obtain ⟨tn, rfl⟩ := r
  have I1 : Inv X pins σ H { s with heap := s1.heap, toks := s.toks } := I.kept kp
  obtain ⟨c, u, g1, g2, g3⟩ := cap_at I1 LP hN hc hy hv
  cases g3
  obtain ⟨its, rv, pl, hz⟩ := I1.list hS
  obtain ⟨jts, rw', pt, hz2⟩ := I1.tuple hT
  obtain ⟨u0, a0, w0⟩ := vals_at rv e0
  cases w0
  obtain ⟨u1, a1, t1, rfl⟩ := vals_at rw' e1
  have ny : ∀ p, Gv X.prog X.w A (lamEnv X scope L f c') (.Name y p) s1 (fun u => u = .ref l) := fun p => gv_free LP.kind hy g1 g2 hd2 hcd
  have na : ∀ p, Gv X.prog X.w A (lamEnv X scope L f c') (.Name a p) s1 (fun u => ∃ t, u = .int n t) := fun p tk0 Q E h => (gv_loc (pos := p) LP.kind LP.par hn (by simp) hd : Gv X.prog X.w A (lamEnv X scope L f c') (.Name a p) s1 (fun u => u = .int n tn)) tk0 Q E fun u tk eu => h u tk ⟨tn, eu⟩
  refine gv_ixT (gv_ixL (ny p1) (na p2) pl (by rw [← rv.length]; exact hz) a0 (fun _ _ => rfl)) gv_int pt (by rw [← rw'.length]; exact hz2) a1 (fun _ _ => rfl) s1.toks _ _ fun u tk eu => ?_
  subst eu
  exact ⟨s1.heap, tk, rfl, fun _ _ e => e, .int _ _⟩
/-- lambda a: y[a][-1][1], y captured: a list of lists of tuples -/
def KfLast1 (K : PySem.W.Frag) (i : Nat) : L2.St → Hp → V → PyData → Prop := fun σ H x d => ∃ (l m t : Addr) (ls ms ts : List V) (n k : Int), σ[i]? = some (some (.ref l)) ∧ x = .int n ∧ SqL K H l ls ∧ atI ls n = some (.ref m) ∧ SqL K H m ms ∧ atI ms (-1) = some (.ref t) ∧ SqT K H t ts ∧ atI ts 1 = some (.int k) ∧ d = .int k
theorem key_last1 {i : Nat} {y : Str} (LP : LamP X.env.scope scope a) (hN : X.N[i]? = some y) (hc : X.env.scope.names.lookup y = some .cell) (hy : scope.names.lookup y = some .free) (hd : (a == ("__debug__" : Str)) = false) (hd2 : (y == ("__debug__" : Str)) = false) (hcd : (y == ("__classdict__" : Str)) = false) :
    KeyBody X scope a (.Subscript (.Subscript (.Subscript (.Name y p1) (.Name a p2) p3) (.UnaryOp .USub (.Constant (.int 1) j2 p6) p7) p8) (.Constant (.int 1) j1 p4) p5) (KfLast1 X.K i) := by
  intro pins σ H s s1 A L f c' v x d I kp hn r h
  obtain ⟨l, m, t, ls, ms, ts, n, k, hv, rfl, hS, e0, hM, em, hT, e1, rfl⟩ := h
  obtain ⟨tn, rfl⟩ := r
  have I1 : Inv X pins σ H { s with heap := s1.heap, toks := s.toks } := I.kept kp
  obtain ⟨c, u, g1, g2, g3⟩ := cap_at I1 LP hN hc hy hv
  cases g3
  obtain ⟨its, rv, pl, hz⟩ := I1.list hS
  obtain ⟨kts, rk, pk, hz3⟩ := I1.list hM
  obtain ⟨jts, rw', pt, hz2⟩ := I1.tuple hT
  obtain ⟨u0, a0, w0⟩ := vals_at rv e0
  cases w0
  obtain ⟨u2, a2, w2⟩ := vals_at rk em
  cases w2
  obtain ⟨u1, a1, t1, rfl⟩ := vals_at rw' e1
  have ny : ∀ p, Gv X.prog X.w A (lamEnv X scope L f c') (.Name y p) s1 (fun u => u = .ref l) := fun p => gv_free LP.kind hy g1 g2 hd2 hcd
  have na : ∀ p, Gv X.prog X.w A (lamEnv X scope L f c') (.Name a p) s1 (fun u => ∃ t, u = .int n t) := fun p tk0 Q E h => (gv_loc (pos := p) LP.kind LP.par hn (by simp) hd : Gv X.prog X.w A (lamEnv X scope L f c') (.Name a p) s1 (fun u => u = .int n tn)) tk0 Q E fun u tk eu => h u tk ⟨tn, eu⟩
  refine gv_ixT (gv_ixL (gv_ixL (ny p1) (na p2) pl (by rw [← rv.length]; exact hz) a0 (fun _ _ => rfl)) (gv_neg gv_int) pk (by rw [← rk.length]; exact hz3) a2 (fun _ _ => rfl)) gv_int pt (by rw [← rw'.length]; exact hz2) a1 (fun _ _ => rfl) s1.toks _ _ fun u tk eu => ?_
  subst eu
  exact ⟨s1.heap, tk, rfl, fun _ _ e => e, .int _ _⟩
end

open LamX
/-! ### sorted(range(n), key=lambda a: ..) -/
theorem cr_range1 {X : Cx} : CallR X (.type "range") (fun vs H Q => ∃ j, vs = [V.int j] ∧ ∀ p, H p = none → Q (.ref p) (upd H p (.rng 0 j))) := fun pins s σ H vs us Q I r h => by
  obtain ⟨j, rfl, q⟩ := h
  obtain ⟨u, rfl, t, rfl⟩ := vals1 r
  refine call_range_1 ⟨.ref s.heap.objs.size, upd H s.heap.objs.size (.rng 0 j), I.laid (t' := s.toks + 1 + 1) (fun b o e => Heap.get?_push_of_some _ e) (Nat.le_refl _) ?_, rfl, q _ (I.hok.fresh (Nat.le_refl _))⟩
  exact ⟨s.toks, t, s.toks + 1, Heap.get?_push_size _ rfl⟩
abbrev rngV (n : Nat) : List V := (List.range n).map fun i : Nat => V.int (i : Int)
theorem vals_of : ∀ {xs : List V} {us : List Value}, xs.length = us.length → (∀ (j : Nat) x u, xs[j]? = some x → us[j]? = some u → RelV x u) → Vals xs us
  | [], [], _, _ => .nil
  | [], _ :: _, h, _ => nomatch h
  | _ :: _, [], h, _ => nomatch h
  | x :: xs, u :: us, h, r => .cons (r 0 x u rfl rfl) (vals_of (Nat.succ.inj h) fun j y w e1 e2 => r (j + 1) y w e1 e2)
section
variable {prog : Program} {w : World} {A : Around} {E : Value → Shared → Prop} {s : Shared}
theorem sorted_key_range {r : Addr} {f : Addr} {n : Nat} {t u v : Tok} {Q : Value → Shared → Prop} (k : V → PyData) (hh : A.handled = none) (hr : IsRange s.heap r 0 (n : Int) 1 t u v) (hn : n ≤ 10000) (hal : PySem.W.AllAlike ((rngV n).map k)) (hk : PySem.W.Sortable ((rngV n).map k))
    (hu : ∀ x, x ∈ rngV n → A.units + 2 + (k x).depth < cLine)
    (turn : ∀ (v : Value) (x : V), RelV x v → x ∈ rngV n → ∀ (h : Heap) (tk : Nat), (∀ b o, s.heap.get? b = some o → h.get? b = some o) →
      wpAny (model prog w) A.in1.in1 (call (.ref f) [v]) (PySem.W.KeyPure (k x) { s with heap := h, toks := tk }) (fun _ _ => False) { s with heap := h, toks := tk })
    (h : ∀ p out c h' tk, s.heap.get? p = none → (∀ b o, s.heap.get? b = some o → h'.get? b = some o) → h'.get? p = some (seqObj "list" (List.toArray out) c) → Vals ((rngV n).mergeSort (PySem.W.dataLe false k)) out →
      Q (.ref p) { s with heap := h', toks := tk }) :
    wpAny (model prog w) A (call (.builtin "sorted") [.ref r] [(Str.ofString "key", .ref f)]) Q E s := by
  refine call_function_entry_kw kind_sorted plain_sorted entry_sorted (PyProof.Rows.ksk_s1 _ _) ?_
  unfold Builtin.«sorted»
  refine wpAny_bind (m := checkCount "sorted" 1 1 _) (wpAny_pure ?_)
  refine wpAny_bind (collect_range (n := n) (A := A.in1) hh hr ?_ ?_ (by omega) fun h1 tk1 acc k1 hi => ?_)
  · exact small_one (by decide) (by decide) (by omega) (by omega)
  · rw [rangeSize_one]
    split <;> omega
  · have hL : acc.toList.length ≤ sizeLine := by rw [Array.length_toList, hi.1]; exact Nat.le_trans hn (by decide)
    refine wpAny_bind (wpAny_newList ?_ hL)
    refine wpAny_bind (wpAny_holding (wpAny_call_entry_kw slot_list_sort ⟨_, Heap.get?_push_size _ rfl, rfl⟩ entry_list_sort ?body (PyProof.Rows.ksk_l1 _ _)))
    case body =>
      rw [PyProof.Rows.ksk_t1]
      have ev : PySem.W.EachIs (fun v x => RelV x v) acc.toList (rngV n) := by
        refine each_vals (vals_of (by rw [List.length_map, List.length_range, Array.length_toList, hi.1]) fun j x u e1 e2 => ?_)
        obtain ⟨t, rfl⟩ := hi.2 j u (by simpa using e2)
        rw [List.getElem?_map] at e1
        cases e3 : (List.range n)[j]? with
        | none => rw [e3] at e1; cases e1
        | some m =>
          rw [e3] at e1
          cases e1
          have : m = j := by
            have := List.getElem?_eq_some_iff.mp e3
            obtain ⟨hj, e⟩ := this
            rw [List.getElem_range] at e
            exact e.symm
          subst this
          exact ⟨t, by simp⟩
      have fr : ∀ b o, s.heap.get? b = some o → b ≠ h1.objs.size := fun b o e => Nat.ne_of_lt (Heap.lt_size (k1 b o e))
      refine PySem.W.keyH_tree (b := false) (vs := acc.toList) (kz := (rngV n).map k) (s := { s with heap := h1.push (seqObj "list" acc.toList.toArray 0), toks := tk1 }) (Heap.get?_push_size _ rfl) (by rw [List.length_map]; exact ev.length.symm) hL hal hk (fun d hd => by obtain ⟨x, hx, rfl⟩ := List.mem_map.mp hd; exact hu x hx)
        (PySem.W.keyH_turns (h₁ := h1.push (seqObj "list" acc.toList.toArray 0)) (s := { s with heap := h1.push (seqObj "list" acc.toList.toArray 0), toks := tk1 }) ev fun v x hR hx h' tk kp => turn v x hR hx h' tk fun b o e => kp b o (fr b o e) (Heap.get?_push_of_some _ (k1 b o e))) fun h' tk out c kp hD ko => ?_
      refine ⟨.none, rfl, wpAny_pure ⟨_, rfl, ?_⟩⟩
      have nn : s.heap.get? h1.objs.size = none := by
        cases e : s.heap.get? h1.objs.size with
        | none => rfl
        | some o => exact absurd rfl (fr _ _ e)
      exact h h1.objs.size out c h' tk nn (fun b o e => kp b o (fr b o e) (Heap.get?_push_of_some _ (k1 b o e))) hD (vals_each (PySem.W.keyedOut_each k ko ev))
end

def tSortLR (P : Addr) (q : Str) (Kf : L2.St → Hp → V → PyData → Prop) (t : TA) : TE := fun σ H Q => t σ H fun vs H1 => TabS H1 P q ∧ ∃ (a : Addr) (n : Nat) (k : V → PyData), vs = [.ref a] ∧ H1 a = some (.rng 0 (n : Int)) ∧ n ≤ 10000 ∧
  PySem.W.AllAlike ((rngV n).map k) ∧ PySem.W.Sortable ((rngV n).map k) ∧ (∀ x ∈ rngV n, (k x).depth ≤ 8) ∧ (∀ x ∈ rngV n, ∀ H2, TbL P q H1 H2 → Kf σ H2 x (k x)) ∧ ∀ H2 p, TbL P q H1 H2 → H2 p = none → Q (.ref p) (upd H2 p (.lst ((rngV n).mergeSort (PySem.W.dataLe false k))))
section
variable {X : Cx} {c P : Addr} {e : Expr} {t : TA} {params : Arguments} {body : Expr} {scope : Scope} {a : Str} {lpos kpos p pos : Pos} {Kf : L2.St → Hp → V → PyData → Prop}
theorem pe_sortedLR (TB : LamX.TabB X.base X.mg c P) (hcode : X.env.code = .ref c) (hg : Gl X "sorted") (hm : X.mg "sorted" = none) (hr : Room 3 X.A) (ha : PA X [e] t) (hdef : defaultsOf params X.env = ([], [])) (LP : LamP X.env.scope scope a)
    (hbind : ∀ (v pm ctv : Value) (c' : Addr), bindArgs (PySem.W.kla_fn "<lambda>" (X.env.qual ++ "<lambda>") params body scope (cloFrom X.env.cells scope.names []) pm (.ref c') ctv) ⟨[v], []⟩ = pure [(a, v)])
    (hkey : KeyBody X scope a body Kf) (h1 : backTo pos (starEach [e] X.env) = (false, eval e X.env) :: backTo pos (starEach [] X.env) := by rfl) (h2 : (backTo pos (starEach [e] X.env)).any (·.1) = false := by rfl) :
    PE X (.Call (.Name "sorted" p) [e] [⟨some "key", .Lambda params body scope lpos, kpos⟩] pos) (tSortLR P (X.env.qual ++ "<lambda>") Kf t) := by
  refine ⟨fun pins s σ H Q I h => ?_⟩
  refine wpAny_Call_Name_kw (ld_blt I hg hm (show bootBuiltins "sorted" = some (.builtin "sorted") by decide +kernel) ?_ (by decide) (by decide))
  refine PyProof.Rows.callWith_kw (thn (ha.run pos pins s σ H _ I h) fun us s1 ⟨vs, H1, I1, r1, hT, aL, n, k, ev, hS, hn, hal, hso, hdp, hkf, q1⟩ => ?_) h1 h2 rfl rfl
  subst ev
  obtain rfl := Vals.ref1 r1
  show wpAny _ _ (evalAll [do let v ← eval (.Lambda params body scope lpos) X.env; standAt pos; pure v]) _ _ s1
  have hfree : ∀ y ∈ scope.names, y.2 = .free → ∃ c, X.env.cells.lookup y.1 = some c := fun y hy e => by
    rcases LP.free y hy e with z | z
    · exact I.ok.has _ (.inl z)
    · exact I.ok.has _ (.inr z)
  refine wpAny_evalAll_cons (wpAny_bind (lam_make2 (T := [(P, X.env.qual ++ "<lambda>")]) I1 TB hcode (List.mem_cons_self ..) (fun p hp _ => by rw [List.mem_singleton.mp hp]) (fun p hp => by rw [List.mem_singleton.mp hp]; exact hT) hdef hfree
    fun f c' pm ctv H2 s2 I2 x2 T2 hf nf ff hc => wpAny_bind (wpAny_standAt (wpAny_pure (wpAny_evalAll_nil ?_)))))
  have tb2 : TbL P (X.env.qual ++ "<lambda>") H1 H2 := ⟨T2 _ (List.mem_cons_self ..), x2⟩
  have hS2 : H2 aL = some (.rng 0 (n : Int)) := x2 _ _ hS (fun _ w => nomatch w)
  obtain ⟨t0, t1, t2, hra⟩ := (show ObjOk X.prog X.w H2 s2.heap aL (.rng 0 (n : Int)) from I2.hok aL _ hS2)
  show wpAny _ _ (call (.builtin "sorted") [.ref aL] [(Str.ofString "key", .ref f)]) _ _ s2
  have hun := hr.un
  refine sorted_key_range k hr.hd hra hn hal hso (fun x hx => by have := hdp x hx; omega) (fun v x hR hx h tk kp => ?_) (fun pn out c h' tk n0 kp ho eo => ?_)
  · have I3 : Inv X pins σ H2 { s2 with heap := h, toks := tk } := I2.kept kp
    have hf3 := kp _ _ hf
    obtain ⟨⟨oc, vs', t', hoc, hdc, hvc⟩, _, _⟩ := I2.hok c' _ hc
    have hr2 : Room 1 X.A.in1.in1 := hr.in1.in1
    refine wpAny_call (codeAny_mono (R := fun r s' => ∃ u, r = .ok (.ret u) ∧ PySem.W.KeyPure (k x) { s2 with heap := h, toks := tk } u s') ?_ fun r s' hq => ?_)
    · refine PySem.W.kla_callFunE (by have := hr2.dp; omega) hf3 rfl LP.co LP.gen rfl ⟨c', oc, vs', t', rfl, kp _ _ hoc, hdc, hvc⟩ ?_
      rw [hbind]
      refine wpAny_pure (wpAny_newFunctionEnv (fun y hy => LP.own y hy) (fun y hy => by rw [List.mem_singleton.mp hy]; exact LP.par) (fun h₁ hns hsb => ⟨I3.nolimit.fresh _ hsb, ?_⟩) LP.kind)
      have kp1 : ∀ b o, h.get? b = some o → h₁.get? b = some o := fun b o e => hsb.extBut b o (Nat.ne_of_lt (Heap.lt_size e)) (Heap.get?_push_of_some _ e)
      show codeAny _ _ (.expr body (lamEnv X scope h.objs.size f c')) _ _
      refine PySem.W.kla_codeExpr (wpAny_mono (hkey pins σ H2 { s2 with heap := h, toks := tk } { s2 with heap := h₁, toks := tk + 1 } _ h.objs.size f c' v x (k x) I3 kp1 hns hR (hkf x hx H2 tb2)) (fun u s' hq => ?_) fun _ _ z => z.elim)
      obtain ⟨h5, tk5, rfl, k5, rd⟩ := hq
      exact ⟨u, rfl, h5, tk5, rfl, fun b o e => k5 b o (kp1 b o e), rd⟩
    · obtain ⟨u, rfl, hk⟩ := hq
      exact hk
  · have hlen : ((rngV n).mergeSort (PySem.W.dataLe false k)).length ≤ sizeLine := by rw [List.length_mergeSort, List.length_map, List.length_range]; exact Nat.le_trans hn (by decide)
    have np : H2 pn = none := HOk.gone (show HOk X.prog X.w H2 s2.heap from I2.hok) n0
    exact ⟨.ref _, upd H2 pn (.lst ((rngV n).mergeSort (PySem.W.dataLe false k))), Inv.laidN (t' := tk) I2 kp n0 np ⟨hlen, _, c, eo, ho⟩, rfl, q1 H2 _ tb2 np⟩
end

theorem nodup_len {α : Type} [DecidableEq α] : ∀ {l m : List α}, l.Nodup → (∀ x ∈ l, x ∈ m) → l.length ≤ m.length
  | [], _, _, _ => Nat.zero_le _
  | x :: r, m, nd, h => by
    have nx := (List.nodup_cons.mp nd).1
    have ih := nodup_len (m := m.erase x) (List.nodup_cons.mp nd).2 fun y hy => by
      have hne : y ≠ x := fun e => nx (e ▸ hy)
      exact (List.mem_erase_of_ne hne).mpr (h y (List.mem_cons_of_mem _ hy))
    have e := List.length_erase_of_mem (h x (List.mem_cons_self ..))
    have pos : 0 < m.length := List.length_pos_of_mem (h x (List.mem_cons_self ..))
    rw [List.length_cons]
    omega

/-! ### samples: what is fewest -/
theorem ris_last {lo : Int} : ∀ {rs : List (Int × Int)} {q : Int × Int}, Ris lo (rs ++ [q]) → ∀ n, InS (rs ++ [q]) n → n ≤ q.2 := fun {rs q} h n hn => by
  obtain ⟨_, h2, _, h4⟩ := Ris.front h
  rcases inS_append.mp hn with ⟨p, hp, e1, e2⟩ | ⟨p, hp, e1, e2⟩
  · have := h2 p hp; omega
  · rw [List.mem_singleton.mp hp] at e2; exact e2
/-- the least and the greatest of a set -/
theorem told_ends {pr : Int → Prop} {rs : List (Int × Int)} (h : Told pr rs) (hne : rs ≠ []) : ∃ p q : Int × Int, rs[0]? = some p ∧ rs[rs.length - 1]? = some q ∧ pr p.1 ∧ pr q.2 ∧ ∀ n, pr n → p.1 ≤ n ∧ n ≤ q.2 := by
  obtain ⟨lo, hr⟩ := h.ris
  have hl := List.dropLast_concat_getLast hne
  cases rs with
  | nil => exact absurd rfl hne
  | cons p r =>
    refine ⟨p, (p :: r).getLast hne, rfl, ?_, ?_, ?_, fun n hn => ?_⟩
    · rw [← List.getLast?_eq_getElem?, List.getLast?_eq_some_getLast hne]
    · exact (h.same _).mp ⟨p, List.mem_cons_self .., Int.le_refl _, hr.2.1⟩
    · refine (h.same _).mp ⟨_, List.getLast_mem hne, ?_, Int.le_refl _⟩
      rw [← hl] at hr
      exact (Ris.front hr).2.2.2
    · have hi := (h.same n).mpr hn
      refine ⟨?_, ?_⟩
      · rcases inS_cons.mp hi with z | z
        · exact z.1
        · have := hr.2.2.low z
          have := hr.2.1
          omega
      · rw [← hl] at hr hi
        exact ris_last hr n hi
theorem told_nil {pr : Int → Prop} {rs : List (Int × Int)} (h : Told pr rs) : rs = [] ↔ ∀ n, ¬ pr n := by
  constructor
  · intro e n hn
    have := (h.same n).mpr hn
    rw [e] at this
    exact inS_nil this
  · intro hn
    cases rs with
    | nil => rfl
    | cons p r =>
      obtain ⟨lo, hr⟩ := h.ris
      exact absurd ((h.same p.1).mp ⟨p, List.mem_cons_self .., Int.le_refl _, hr.2.1⟩) (hn _)
/-- the numbers taken so far, the runs that asked for them -/
structure Gr (L : Nat → Int × Int) (os : List Nat) (ns : List Int) (ch : List Nat) : Prop where
  map : ns = ch.map fun i => (L i).2
  sub : ∀ i ∈ ch, i ∈ os
  chain : ch.Pairwise fun i j => (L i).2 < (L j).1
  hit : ∀ i ∈ os, ∃ e ∈ ns, (L i).1 ≤ e ∧ e ≤ (L i).2
  inc : ns.Pairwise (· < ·)
theorem Gr.nil (L : Nat → Int × Int) : Gr L [] [] [] := ⟨rfl, (fun _ h => nomatch h), .nil, (fun _ h => nomatch h), .nil⟩
theorem Gr.skip {L : Nat → Int × Int} {os : List Nat} {ns : List Int} {ch : List Nat} {i : Nat} {e : Int} (g : Gr L os ns ch) (hm : ∀ j ∈ os, (L j).2 ≤ (L i).2) (he : e ∈ ns) (hi : (L i).1 ≤ e) : Gr L (os ++ [i]) ns ch := by
  refine ⟨g.map, fun j hj => List.mem_append_left _ (g.sub j hj), g.chain, fun j hj => ?_, g.inc⟩
  rcases List.mem_append.mp hj with z | z
  · exact g.hit j z
  · rw [List.mem_singleton.mp z]
    refine ⟨e, he, hi, ?_⟩
    rw [g.map] at he
    obtain ⟨j, hj, rfl⟩ := List.mem_map.mp he
    exact hm j (g.sub j hj)
theorem Gr.take {L : Nat → Int × Int} {os : List Nat} {ns : List Int} {ch : List Nat} {i : Nat} (g : Gr L os ns ch) (hi : (L i).1 ≤ (L i).2) (lt : ∀ e ∈ ns, e < (L i).1) : Gr L (os ++ [i]) (ns ++ [(L i).2]) (ch ++ [i]) := by
  refine ⟨by rw [g.map, List.map_append]; rfl, fun j hj => ?_, ?_, fun j hj => ?_, ?_⟩
  · rcases List.mem_append.mp hj with z | z
    · exact List.mem_append_left _ (g.sub j z)
    · exact List.mem_append_right _ z
  · rw [List.pairwise_append]
    refine ⟨g.chain, List.pairwise_singleton _ _, fun a ha b hb => ?_⟩
    rw [List.mem_singleton.mp hb]
    exact lt _ (by rw [g.map]; exact List.mem_map_of_mem ha)
  · rcases List.mem_append.mp hj with z | z
    · obtain ⟨e, he, h1⟩ := g.hit j z
      exact ⟨e, List.mem_append_left _ he, h1⟩
    · rw [List.mem_singleton.mp z]
      exact ⟨_, List.mem_append_right _ (List.mem_singleton.mpr rfl), hi, Int.le_refl _⟩
  · rw [List.pairwise_append]
    refine ⟨g.inc, List.pairwise_singleton _ _, fun a ha b hb => ?_⟩
    rw [List.mem_singleton.mp hb]
    have := lt a ha
    omega
theorem chain_some {L : Nat → Int × Int} {row : List Int} : ∀ {ch : List Nat}, ch.Pairwise (fun i j => (L i).2 < (L j).1) → (∀ i ∈ ch, ∃ e ∈ row, (L i).1 ≤ e ∧ e ≤ (L i).2) → ∃ es : List Int, es.length = ch.length ∧ (∀ e ∈ es, e ∈ row) ∧ es.Pairwise (· < ·) ∧ ∀ e ∈ es, ∃ i ∈ ch, (L i).1 ≤ e
  | [], _, _ => ⟨[], rfl, (fun _ h => nomatch h), .nil, (fun _ h => nomatch h)⟩
  | i :: ch, hc, h => by
    obtain ⟨h1, h2⟩ := List.pairwise_cons.mp hc
    obtain ⟨es, l, a, b, c⟩ := chain_some h2 fun j hj => h j (List.mem_cons_of_mem _ hj)
    obtain ⟨e, he, e1, e2⟩ := h i (List.mem_cons_self ..)
    refine ⟨e :: es, by rw [List.length_cons, List.length_cons, l], fun x hx => ?_, List.pairwise_cons.mpr ⟨fun x hx => ?_, b⟩, fun x hx => ?_⟩
    · rcases List.mem_cons.mp hx with z | z
      · rw [z]; exact he
      · exact a x z
    · obtain ⟨j, hj, lj⟩ := c x hx
      have := h1 j hj
      omega
    · rcases List.mem_cons.mp hx with z | z
      · exact ⟨i, List.mem_cons_self .., by rw [z]; exact e1⟩
      · obtain ⟨j, hj, lj⟩ := c x z
        exact ⟨j, List.mem_cons_of_mem _ hj, lj⟩
theorem Gr.low {L : Nat → Int × Int} {os : List Nat} {ns : List Int} {ch : List Nat} (g : Gr L os ns ch) {row : List Int} (h : ∀ i ∈ os, ∃ e ∈ row, (L i).1 ≤ e ∧ e ≤ (L i).2) : ns.length ≤ row.length := by
  obtain ⟨es, l, a, b, _⟩ := chain_some g.chain fun i hi => h i (g.sub i hi)
  rw [g.map, List.length_map, ← l]
  exact nodup_len (List.Pairwise.imp (fun z => by omega) b) a
/-- every choice among so many numbers -/
def rowsF (fr : List Int) : List (List Int) := fr.foldl (fun some n => some ++ some.map (· ++ [n])) [[]]
theorem rowsF_snoc (fr : List Int) (n : Int) : rowsF (fr ++ [n]) = rowsF fr ++ (rowsF fr).map (· ++ [n]) := by simp [rowsF]
theorem rows_from : ∀ (fr : List Int) (acc : List (List Int)) (row : List Int), row ∈ fr.foldl (fun some n => some ++ some.map (· ++ [n])) acc → ∃ r ∈ acc, ∃ s, row = r ++ s ∧ ∀ e ∈ s, e ∈ fr
  | [], _, row, h => ⟨row, h, [], by simp, fun _ h => nomatch h⟩
  | n :: fr, acc, row, h => by
    obtain ⟨r, hr, s, e, hs⟩ := rows_from fr _ row h
    rcases List.mem_append.mp hr with z | z
    · exact ⟨r, z, s, e, fun x hx => List.mem_cons_of_mem _ (hs x hx)⟩
    · obtain ⟨r', hr', rfl⟩ := List.mem_map.mp z
      refine ⟨r', hr', n :: s, by rw [e]; simp, fun x hx => ?_⟩
      rcases List.mem_cons.mp hx with y | y
      · rw [y]; exact List.mem_cons_self ..
      · exact List.mem_cons_of_mem _ (hs x y)
theorem rows_mem {fr row : List Int} (h : row ∈ rowsF fr) : ∀ e ∈ row, e ∈ fr := by
  obtain ⟨r, hr, s, rfl, hs⟩ := rows_from fr _ row h
  rw [List.mem_singleton.mp hr]
  exact hs
theorem rows_all (p : Int → Bool) : ∀ (fr : List Int) (acc : List (List Int)) (r : List Int), r ∈ acc → r ++ fr.filter p ∈ fr.foldl (fun some n => some ++ some.map (· ++ [n])) acc
  | [], _, r, h => by simpa using h
  | n :: fr, acc, r, h => by
    by_cases hp : p n = true
    · rw [List.filter_cons_of_pos hp, show r ++ n :: fr.filter p = (r ++ [n]) ++ fr.filter p by simp]
      exact rows_all p fr _ _ (List.mem_append_right _ (List.mem_map_of_mem h))
    · rw [List.filter_cons_of_neg hp]
      exact rows_all p fr _ _ (List.mem_append_left _ h)
theorem rows_filter (fr : List Int) (p : Int → Bool) : fr.filter p ∈ rowsF fr := by
  have := rows_all p fr [[]] [] (List.mem_singleton.mpr rfl)
  rw [List.nil_append] at this
  exact this
theorem inc_eq : ∀ {l m : List Int}, l.Pairwise (· < ·) → m.Pairwise (· < ·) → (∀ x, x ∈ l ↔ x ∈ m) → l = m
  | [], [], _, _, _ => rfl
  | [], y :: m, _, _, h => absurd ((h y).mpr (List.mem_cons_self ..)) (List.not_mem_nil)
  | x :: l, [], _, _, h => absurd ((h x).mp (List.mem_cons_self ..)) (List.not_mem_nil)
  | x :: l, y :: m, hl, hm, h => by
    obtain ⟨l1, l2⟩ := List.pairwise_cons.mp hl
    obtain ⟨m1, m2⟩ := List.pairwise_cons.mp hm
    have exy : x = y := by
      rcases List.mem_cons.mp ((h x).mp (List.mem_cons_self ..)) with z | z
      · exact z
      · rcases List.mem_cons.mp ((h y).mpr (List.mem_cons_self ..)) with w | w
        · exact w.symm
        · have := m1 x z
          have := l1 y w
          omega
    subst exy
    rw [inc_eq l2 m2 fun z => ⟨fun hz => ?_, fun hz => ?_⟩]
    · rcases List.mem_cons.mp ((h z).mp (List.mem_cons_of_mem _ hz)) with w | w
      · have := l1 z hz
        omega
      · exact w
    · rcases List.mem_cons.mp ((h z).mpr (List.mem_cons_of_mem _ hz)) with w | w
      · have := m1 z hz
        omega
      · exact w
theorem rows_inc {fr ns : List Int} (hf : fr.Pairwise (· < ·)) (hn : ns.Pairwise (· < ·)) (h : ∀ e ∈ ns, e ∈ fr) : ns ∈ rowsF fr := by
  have e : fr.filter (fun x => decide (x ∈ ns)) = ns := inc_eq (List.Pairwise.filter _ hf) hn fun x => by
    rw [List.mem_filter, decide_eq_true_iff]
    exact ⟨fun z => z.2, fun z => ⟨h x z, z⟩⟩
  rw [← e]
  exact rows_filter fr _
/-- every run has one of the row's numbers -/
def hitsAll (rs : List (Int × Int)) (row : List Int) : Prop := ∀ r ∈ rs, ∃ e ∈ row, r.1 ≤ e ∧ e ≤ r.2

/-! ### fewest by trying -/
/-- truths, one for each item -/
theorem lc_bs {K : PySem.W.Frag} {a : Addr} {xs : List V} {g : TG} {tt : TT} {te : TE} {vs : List Nat} {σ : L2.St} {H1 : Hp} {D : Addr} {Qd : Hp → Prop} (bs : List Bool) (nD : H1 D = none) (ea : H1 a = some (.lst xs)) (hl : bs.length = xs.length) (hz : xs.length ≤ 1000)
    (turn : ∀ (i : Nat) (x : V) (b : Bool) (H : Hp) (Kt : V → Hp → Prop) (Kn : Hp → Prop), xs[i]? = some x → bs[i]? = some b → Same H1 H → (∀ H4, Same H H4 → Kt (.bl b) H4) → g x (wipe σ vs) H fun σ2 H2 => wipe σ2 vs = wipe σ vs ∧ tt σ2 H2 fun b H3 => if b = true then te σ2 H3 Kt else Kn H3)
    (fin : ∀ H, Same H1 H → H D = some (.lst (bs.map V.bl)) → Qd H) : LcW (Itl K a) g tt te vs σ D Qd H1 := by
  refine lc_it walk_list (fun j H => Same H1 H ∧ H D = some (.lst ((bs.take j).map V.bl))) ⟨same_upd nD, upd_same⟩ (fun i H _ p => SqL.of (p.1 _ _ ea)) (fun i x H H' hi hP hy => ?_) (fun H hP => ?_)
  · obtain ⟨sm, eD⟩ := hP
    obtain ⟨rfl, hx⟩ := hy
    have hb : bs[i]? = some bs[i] := List.getElem?_eq_getElem (by omega)
    refine turn i x _ H' _ _ hx hb sm fun H4 s4 => ⟨_, s4 _ _ eD, Nat.lt_of_lt_of_le (show _ < 1000 by rw [List.length_map, List.length_take]; omega) (by decide), fun b o e => ?_, ?_⟩
    · rw [upd_ne (ne_of_none e nD)]
      exact s4 _ _ (sm b o e)
    · rw [upd_same, List.take_add_one, hb, List.map_append]
      rfl
  · obtain ⟨sm, eD⟩ := hP
    rw [← hl, List.take_length] at eD
    exact fin H sm eD

/-! ### the cheapest places -/
/-- how far back the place ahead of s may lie -/
structure BackAt (rs : List (Int × Int)) (s b : Int) : Prop where
  lo : 0 ≤ b
  all : ∀ r ∈ rs, r.2 + 2 ≤ s → r.1 + 1 ≤ b
  one : b = 0 ∨ ∃ r ∈ rs, r.2 + 2 ≤ s ∧ b = r.1 + 1
theorem BackAt.lt {rs : List (Int × Int)} {s b : Int} (h : BackAt rs s b) (hr : ∀ r ∈ rs, r.1 ≤ r.2) (hs : 1 ≤ s) : b < s := by
  rcases h.one with z | ⟨r, h1, h2, h3⟩
  · omega
  · have := hr r h1
    omega
/-- places from the last to the first, each no further back than may be -/
def Way (rs : List (Int × Int)) : Int → List Int → Prop
  | s, [] => BackAt rs s 0
  | s, x :: l => x + 1 < s ∧ 0 ≤ x ∧ (∃ b, BackAt rs s b ∧ b ≤ x + 1) ∧ Way rs (x + 1) l
theorem BackAt.eq {rs : List (Int × Int)} {s b b' : Int} (h : BackAt rs s b) (h' : BackAt rs s b') : b = b' := by
  have a1 : b ≤ b' := by
    rcases h.one with z | ⟨r, h1, h2, h3⟩
    · have := h'.lo; omega
    · have := h'.all r h1 h2; omega
  have a2 : b' ≤ b := by
    rcases h'.one with z | ⟨r, h1, h2, h3⟩
    · have := h.lo; omega
    · have := h.all r h1 h2; omega
  omega
/-- each run that ends ahead of s has one of l -/
def HitB (rs : List (Int × Int)) (s : Int) (l : List Int) : Prop := ∀ r ∈ rs, r.2 + 2 ≤ s → ∃ x ∈ l, r.1 ≤ x ∧ x ≤ r.2
theorem Way.hit {rs : List (Int × Int)} : ∀ {l : List Int} {s : Int}, (∀ r ∈ rs, 0 ≤ r.1) → Way rs s l → HitB rs s l
  | [], s, h0, h => fun r hr e => by
    have := h.all r hr e
    have := h0 r hr
    omega
  | x :: l, s, h0, h => fun r hr e => by
    obtain ⟨h1, h2, ⟨b, hb, hx⟩, h4⟩ := h
    by_cases c : r.2 + 2 ≤ x + 1
    · obtain ⟨y, hy, e1⟩ := Way.hit h0 h4 r hr c
      exact ⟨y, List.mem_cons_of_mem _ hy, e1⟩
    · have := hb.all r hr e
      exact ⟨x, List.mem_cons_self .., by omega, by omega⟩
theorem back_ex (rs : List (Int × Int)) (h0 : ∀ r ∈ rs, 0 ≤ r.1) (s : Int) : ∃ b, BackAt rs s b := by
  induction rs with
  | nil => exact ⟨0, Int.le_refl _, (fun _ h => nomatch h), .inl rfl⟩
  | cons r rs ih =>
    obtain ⟨b, hb⟩ := ih fun x hx => h0 x (List.mem_cons_of_mem _ hx)
    have hr0 := h0 r (List.mem_cons_self ..)
    by_cases c : r.2 + 2 ≤ s ∧ b < r.1 + 1
    · refine ⟨r.1 + 1, by omega, fun x hx e => ?_, .inr ⟨r, List.mem_cons_self .., c.1, rfl⟩⟩
      rcases List.mem_cons.mp hx with z | z
      · rw [z]; omega
      · have := hb.all x z e; omega
    · refine ⟨b, hb.lo, fun x hx e => ?_, ?_⟩
      · rcases List.mem_cons.mp hx with z | z
        · rw [z] at e ⊢; omega
        · exact hb.all x z e
      · rcases hb.one with z | ⟨x, h1, h2, h3⟩
        · exact .inl z
        · exact .inr ⟨x, List.mem_cons_of_mem _ h1, h2, h3⟩
/-- falling, all within -/
def Fall : Int → List Int → Prop
  | _, [] => True
  | s, x :: l => x + 1 < s ∧ 0 ≤ x ∧ Fall (x + 1) l
theorem Fall.lt : ∀ {l : List Int} {s : Int}, Fall s l → ∀ x ∈ l, x + 1 < s
  | y :: l, s, h, x, hx => by
    rcases List.mem_cons.mp hx with z | z
    · rw [z]; exact h.1
    · have := Fall.lt h.2.2 x z
      have := h.1
      omega
theorem Way.fall {rs : List (Int × Int)} : ∀ {l : List Int} {s : Int}, Way rs s l → Fall s l
  | [], _, _ => trivial
  | _ :: _, _, h => ⟨h.1, h.2.1, Way.fall h.2.2.2⟩
theorem Way.of {rs : List (Int × Int)} (h0 : ∀ r ∈ rs, 0 ≤ r.1) : ∀ {l : List Int} {s : Int}, Fall s l → HitB rs s l → Way rs s l
  | [], s, _, h => ⟨Int.le_refl _, fun r hr e => (let ⟨_, hx, _⟩ := h r hr e; nomatch hx), .inl rfl⟩
  | x :: l, s, f, h => by
    obtain ⟨b, hb⟩ := back_ex rs h0 s
    refine ⟨f.1, f.2.1, ⟨b, hb, ?_⟩, Way.of h0 f.2.2 fun r hr e => ?_⟩
    · rcases hb.one with z | ⟨r, h1, h2, h3⟩
      · have := f.2.1; omega
      · obtain ⟨y, hy, e1, e2⟩ := h r h1 h2
        rcases List.mem_cons.mp hy with z | z
        · rw [z] at e1; omega
        · have := Fall.lt f.2.2 y z; omega
    · obtain ⟨y, hy, e1, e2⟩ := h r hr (by have := f.1; omega)
      rcases List.mem_cons.mp hy with z | z
      · rw [z] at e2; omega
      · exact ⟨y, z, e1, e2⟩
/-- what places cost -/
def costF (pr : Int → Int) (l : List Int) : Int := (l.map pr).sum
/-- the least costs up to the k-th spot: c of a spot with its own price, back where it comes from -/
structure Costs (rs : List (Int × Int)) (pr : Int → Int) (k : Int) (c back : Int → Int) : Prop where
  zero : c 0 = 0
  from_ : ∀ s, 1 ≤ s → s ≤ k → 0 ≤ back s ∧ back s < s ∧ (∃ b, BackAt rs s b ∧ b ≤ back s) ∧ c s = c (back s) + pr (s - 1)
  least : ∀ s, 1 ≤ s → s ≤ k → ∀ b o, BackAt rs s b → b ≤ o → o < s → c s ≤ c o + pr (s - 1)
theorem Costs.low {rs : List (Int × Int)} {pr : Int → Int} {k : Int} {c back : Int → Int} (C : Costs rs pr k c back) : ∀ {l : List Int} {s : Int}, 1 ≤ s → s ≤ k → Way rs s l → c s ≤ costF pr l + pr (s - 1)
  | [], s, h1, h2, h => by
    have := C.least s h1 h2 0 0 h (Int.le_refl _) (by omega)
    have := C.zero
    show c s ≤ 0 + _
    omega
  | x :: l, s, h1, h2, h => by
    obtain ⟨e1, e2, ⟨b, hb, hx⟩, h4⟩ := h
    have a1 := C.least s h1 h2 b (x + 1) hb hx e1
    have a2 := C.low (l := l) (s := x + 1) (by omega) (by omega) h4
    have e : x + 1 - 1 = x := by omega
    rw [e] at a2
    show c s ≤ (pr x + costF pr l) + _
    omega
/-- the way back from a spot -/
theorem Costs.way {rs : List (Int × Int)} {pr : Int → Int} {k : Int} {c back : Int → Int} (C : Costs rs pr k c back) {l : List Int} {s : Int} (h1 : 1 ≤ s) (h2 : s ≤ k) (h : if back s = 0 then l = [] else ∃ l', l = (back s - 1) :: l' ∧ Way rs (back s) l' ∧ costF pr l' + pr (back s - 1) = c (back s)) : Way rs s l ∧ costF pr l + pr (s - 1) = c s := by
  obtain ⟨f1, f2, ⟨b, hb, f3⟩, f4⟩ := C.from_ s h1 h2
  split at h
  · next z =>
    subst h
    rw [z] at f3 f4
    have b0 : b = 0 := by have := hb.lo; omega
    subst b0
    refine ⟨hb, ?_⟩
    have := C.zero
    show 0 + _ = _
    omega
  · next z =>
    obtain ⟨l', rfl, hw, hc⟩ := h
    refine ⟨⟨by omega, by omega, ⟨b, hb, by omega⟩, by rw [show back s - 1 + 1 = back s by omega]; exact hw⟩, ?_⟩
    show (pr (back s - 1) + costF pr l') + _ = _
    omega

/-! ### rows that are lists or tuples -/
def IntsQ (H : Hp) (a : Addr) (ns : List Int) : Prop := SqH H a (ns.map V.int)
def LsQ (H : Hp) (a : Addr) (rs : List (Int × Int)) : Prop := ∃ us, SqH H a us ∧ Prs H us rs
theorem SqH.sq {K : PySem.W.Frag} {H : Hp} {a : Addr} {xs : List V} (h : SqH H a xs) : Sq K H a xs := h.elim (fun e => .inl (SqL.of e)) (fun e => .inr (.inl (.inl e)))
theorem SqH.lq {K : PySem.W.Frag} {H : Hp} {a : Addr} {xs : List V} (h : SqH H a xs) : SqL K H a xs ∨ SqT K H a xs := h.elim (fun e => .inl (SqL.of e)) (fun e => .inr (.inl (.inl e)))
theorem SqH.same {H H' : Hp} {a : Addr} {xs : List V} (h : SqH H a xs) (s : Same H H') : SqH H' a xs := h.elim (fun e => .inl (s _ _ e)) (fun e => .inr (s _ _ e))
theorem SqH.kp {H H' : Hp} {a d c : Addr} {xs : List V} (h : SqH H a xs) (h1 : a ≠ d) (h2 : a ≠ c) (k : Kp d c H H') : SqH H' a xs := h.elim (fun e => .inl (k _ _ h1 h2 e)) (fun e => .inr (k _ _ h1 h2 e))
theorem LsQ.same {H H' : Hp} {a : Addr} {rs : List (Int × Int)} (h : LsQ H a rs) (s : Same H H') : LsQ H' a rs := by
  obtain ⟨us, e, p⟩ := h
  exact ⟨us, e.same s, p.1, fun i r er => let ⟨x, h1, h2⟩ := p.2 i r er; ⟨x, h1, s _ _ h2⟩⟩
theorem SqH.ql {K : PySem.W.Frag} {H : Hp} {a : Addr} {xs : List V} (h : SqH H a xs) : SqT K H a xs ∨ SqL K H a xs := h.elim (fun e => .inr (SqL.of e)) (fun e => .inl (.inl (.inl e)))

/-! ### min of pairs -/
def lexLe (p q : Int × Int) : Prop := p.1 < q.1 ∨ (p.1 = q.1 ∧ p.2 ≤ q.2)
instance (p q : Int × Int) : Decidable (lexLe p q) := by unfold lexLe; infer_instance
theorem lexLe.refl (p : Int × Int) : lexLe p p := .inr ⟨rfl, Int.le_refl _⟩
theorem lexLe.trans {p q r : Int × Int} (h : lexLe p q) (h' : lexLe q r) : lexLe p r := by
  unfold lexLe at *
  omega
theorem lexLe.total {p q : Int × Int} (h : ¬ lexLe p q) : lexLe q p := by
  unfold lexLe at *
  omega
theorem lt_pairs (p q : Int × Int) : PySem.W.dataLt (pairD q) (pairD p) = !decide (lexLe p q) := by
  have h := congrFun (congrFun (PySem.W.dataLe_ii (fun x : Int × Int => x.1) (fun x : Int × Int => x.2)) p) q
  have h' : (!PySem.W.dataLt (pairD q) (pairD p)) = decide (p.1 < q.1 ∨ (p.1 = q.1 ∧ p.2 ≤ q.2)) := h
  have e : decide (lexLe p q) = decide (p.1 < q.1 ∨ (p.1 = q.1 ∧ p.2 ≤ q.2)) := by unfold lexLe; rfl
  rw [e, ← h', Bool.not_not]
theorem min_pairs : ∀ (ps : List (Int × Int)) (p : Int × Int), ∃ m, m ∈ p :: ps ∧ (∀ q ∈ p :: ps, lexLe m q) ∧ PySem.W.minD (pairD p) (ps.map pairD) = pairD m
  | [], p => ⟨p, List.mem_cons_self .., fun q hq => by rw [List.mem_singleton.mp hq]; exact lexLe.refl p, rfl⟩
  | q :: ps, p => by
    have e : PySem.W.minD (pairD p) ((q :: ps).map pairD) = PySem.W.minD (if PySem.W.dataLt (pairD q) (pairD p) then pairD q else pairD p) (ps.map pairD) := rfl
    rw [e, lt_pairs p q]
    by_cases c : lexLe p q
    · rw [decide_eq_true c]
      obtain ⟨m, h1, h2, h3⟩ := min_pairs ps p
      refine ⟨m, ?_, fun x hx => ?_, h3⟩
      · rcases List.mem_cons.mp h1 with z | z
        · rw [z]; exact List.mem_cons_self ..
        · exact List.mem_cons_of_mem _ (List.mem_cons_of_mem _ z)
      · rcases List.mem_cons.mp hx with z | z
        · rw [z]; exact h2 p (List.mem_cons_self ..)
        · rcases List.mem_cons.mp z with y | y
          · rw [y]; exact (h2 p (List.mem_cons_self ..)).trans c
          · exact h2 x (List.mem_cons_of_mem _ y)
    · rw [decide_eq_false c]
      obtain ⟨m, h1, h2, h3⟩ := min_pairs ps q
      refine ⟨m, List.mem_cons_of_mem _ h1, fun x hx => ?_, h3⟩
      rcases List.mem_cons.mp hx with z | z
      · rw [z]; exact (h2 q (List.mem_cons_self ..)).trans (lexLe.total c)
      · exact h2 x z
theorem Reads.int_inj {h : Heap} {v : Value} {i j : Int} {as : List Addr} (r : Reads h v (.int j) as) (e : ∃ t, v = .int i t) : i = j := by
  obtain ⟨t, rfl⟩ := e
  cases r
  rfl
theorem reads_prs {X : Cx} {pins : List (Addr × Obj)} {σ : L2.St} {H : Hp} {s : Shared} (I : Inv X pins σ H s) : ∀ {us : List V} {ps : List (Int × Int)} {its : List Value}, Prs H us ps → Vals us its → ReadsAll s.heap its (ps.map pairD) []
  | [], [], _, _, .nil => .nil
  | [], _ :: _, _, h, _ => nomatch h.1
  | _ :: _, [], _, h, _ => nomatch h.1
  | u :: us, p :: ps, _, h, .cons (b := b) r t => by
    obtain ⟨a, e1, e2⟩ := h.2 0 p rfl
    have eu : u = .ref a := Option.some.inj e1
    subst eu
    cases r
    obtain ⟨ta, tb, hT⟩ := pair_in I e2
    have rest := reads_prs I (ps := ps) ⟨Nat.succ.inj h.1, fun i q e => h.2 (i + 1) q e⟩ t
    obtain ⟨o, ho, hc, n, hd⟩ := hT
    exact .cons (as := []) (.tuple ho hc hd (.cons (.int _ _) (.cons (.int _ _) .nil))) rest
def rMinP : List V → Hp → VK → Prop := fun vs H Q => ∃ (a : Addr) (us : List V) (ps : List (Int × Int)), vs = [V.ref a] ∧ H a = some (.lst us) ∧ Prs H us ps ∧ ps ≠ [] ∧ ∀ p T, p ∈ ps → (∀ q ∈ ps, lexLe p q) → H T = some (.tup [.int p.1, .int p.2]) → Q (.ref T) H
theorem cr_minP {X : Cx} (hc : X.calm = true) (hu : X.A.units + 64 < cLine) : CallR X (.builtin "min") rMinP := fun pins s σ H vs us Q I r h => by
  obtain ⟨a, ws, ps, rfl, ha, hp, hne, q⟩ := h
  obtain ⟨its, rv, hl, hz⟩ := I.list (SqL.of ha)
  rw [Vals.ref1 r]
  cases ps with
  | nil => exact absurd rfl hne
  | cons p ps =>
    have hr := reads_prs I hp rv
    refine PySem.W.min_list_data (x := pairD p) (xs := ps.map pairD) (I.ok.hd hc) hl.isList (by simpa using hr) ?_ ?_ fun i v h' tk bs hv hR hk => ?_
    · have e : pairD p :: List.map pairD ps = (p :: ps).map pairD := rfl
      rw [e]
      refine ⟨fun x hx y hy => ?_, fun x hx => ?_⟩
      · obtain ⟨x', _, rfl⟩ := List.mem_map.mp hx
        obtain ⟨y', _, rfl⟩ := List.mem_map.mp hy
        simp [pairD, PySem.W.alike, PySem.W.alikeAll]
      · obtain ⟨x', _, rfl⟩ := List.mem_map.mp hx
        exact fun z => nomatch z
    · have := depth_prs (p :: ps)
      rw [List.map_cons] at this
      omega
    · obtain ⟨m, m1, m2, m3⟩ := min_pairs ps p
      rw [m3] at hR
      have hv' : its[i]? = some v := by simpa using hv
      have hi : i < ws.length := by rw [rv.length]; exact (List.getElem?_eq_some_iff.mp hv').1
      obtain ⟨g, T, eg, ew, eT⟩ := prs_at hp (List.getElem?_eq_getElem hi)
      obtain ⟨u, hu', ru⟩ := rv.get (List.getElem?_eq_getElem hi)
      rw [hv'] at hu'
      cases hu'
      rw [ew] at ru
      cases ru
      obtain ⟨ta, tb, o, ho, hcl, n, hd⟩ := pair_in I eT
      have gm : g = m := by
        cases hR with
        | tuple ho' hc' hd' rr =>
          rw [hk _ _ ho] at ho'
          cases ho'
          rw [hd] at hd'
          cases hd'
          cases rr with
          | cons r1 rr =>
            cases rr with
            | cons r2 rr =>
              exact Prod.ext (Reads.int_inj r1 ⟨_, rfl⟩) (Reads.int_inj r2 ⟨_, rfl⟩)
      rw [gm] at eT
      exact ⟨.ref T, H, I.kept hk, rfl, q m T m1 m2 eT⟩

/-! ### enumerate(list, start=k) -/
def IteF (K : PySem.W.Frag) (k0 : Int) (a : Addr) : It :=
  ⟨fun i H => ∃ (xs : List V) (x : V), SqL K H a xs ∧ xs[i]? = some x, fun i H v H' => ∃ T x, v = .ref T ∧ H T = none ∧ H' = upd H T (.tup [.int (k0 + (i : Nat)), x]) ∧ ∀ xs, SqL K H a xs → xs[i]? = some x, fun i H => ∃ xs : List V, SqL K H a xs ∧ xs.length = i⟩
theorem turn_enumF {P : Program} {w : World} {K : PySem.W.Frag} {elts : List Expr} {kk : Nat} {tpos : Pos} (k0 : Int) (a e it : Addr) (nea : e ≠ a) (nia : a ≠ it) :
    Turn P w K (.Tuple elts kk tpos) (IteF K k0 a) [e, it] e (fun i h => (∃ old, IsEnum h e it (k0 + ((i : Nat) : Int)) old) ∧ h.IsListIter it a i ∧ e ≠ it) where
  mem := by simp
  obj := fun i h st b hb => by
    obtain ⟨⟨old, he⟩, ⟨o, ho, hc, hd⟩, _⟩ := st
    have e' : b = e ∨ b = it := by simpa using hb
    rcases e' with z | z
    · rw [z]; exact ⟨_, he, fun v q => nomatch q⟩
    · rw [z]; exact ⟨o, ho, fun v q => by rw [hd] at q; cases q⟩
  keep := fun i h h' st k => let ⟨⟨old, he⟩, hi, hne⟩ := st; ⟨⟨old, k e (by simp) _ he⟩, hi.at fun o q => k it (by simp) o q, hne⟩
  item := by
    intro X hP hw hK hc i pins s σ H E I hf st hg
    subst hP hw hK
    obtain ⟨⟨old, he⟩, hit, hne⟩ := st
    obtain ⟨xs, x, hq, hx⟩ := hg
    obtain ⟨its, rv, p, hz⟩ := I.list hq
    obtain ⟨u, hu, ru⟩ := rv.get hx
    have hel : e < s.heap.objs.size := Heap.lt_size he
    have hil : it < s.heap.objs.size := by obtain ⟨_, q, _⟩ := hit; exact Heap.lt_size q
    have hlt : i < its.toArray.size := by simpa using (List.getElem?_eq_some_iff.mp hu).1
    refine wpAny_pyNext_enum_itemC (Draws.list (show X.A.in1.handled = none from I.ok.hd hc) it a nia its.toArray) he ⟨hit, p.isList⟩ hlt hne (by simp [hne, nea]) fun x' h' tk hP' ho hit' hT hsz hk => ?_
    have eu : x' = u := by
      have h1 : its[i]? = some x' := by simpa using hP'
      rw [hu] at h1
      exact (Option.some.inj h1).symm
    subst eu
    refine ⟨_, rfl, wpAny_letOwnedTupleGo_enum (s := { s with heap := h', toks := tk + 1 }) ho fun h'' he' sb => ?_⟩
    have hT2 : h''.get? s.heap.objs.size = some { cls := .type "tuple", data := .seq #[.int (k0 + (i : Int)) tk, x'] } := (sb.2 _ (Nat.ne_of_gt hel)).trans hT
    have new : ObjOk X.prog X.w (upd H s.heap.objs.size (.tup [.int (k0 + (i : Nat)), x])) h'' s.heap.objs.size (.tup [.int (k0 + (i : Nat)), x]) :=
      ⟨by show 2 ≤ sizeLine; decide, [.int (k0 + (i : Int)) tk, x'], .cons ⟨_, rfl⟩ (.cons ru .nil), ⟨_, hT2, rfl, _, rfl⟩⟩
    have I1 : Inv X pins σ (upd H s.heap.objs.size (.tup [.int (k0 + (i : Nat)), x])) { s with heap := h'', toks := tk + 1 } :=
      I.turnedNew (ch := [e, it]) (fun b ob hb q => (sb.2 b (fun z => hb (by simp [z]))).trans (hk b ob (fun z => hb (by simp [z])) (fun z => hb (by simp [z])) q)) hf (Nat.le_refl _) new
    refine ⟨.ref s.heap.objs.size, _, I1, rfl, ⟨_, x, rfl, I.hok.fresh (Nat.le_refl _), rfl, fun ys hy => by rw [I.list_inj hy hq]; exact hx⟩, ⟨⟨x', ?_⟩, hit'.1.at fun o q => (sb.2 it (Ne.symm hne)).trans q, hne⟩, fun b hb => ?_⟩
    · have e1 : k0 + ((i + 1 : Nat) : Int) = k0 + (i : Int) + 1 := by omega
      rw [e1]; exact he'
    · have hb' : b < s.heap.objs.size := by
        have e' : b = e ∨ b = it := by simpa using hb
        rcases e' with z | z
        · rw [z]; exact hel
        · rw [z]; exact hil
      rw [upd_ne (Nat.ne_of_lt hb')]
      exact (hf b hb).1
  done := by
    intro X hP hw hK hc i pins s σ H E I hf st hg
    subst hP hw hK
    obtain ⟨⟨old, he⟩, hit, hne⟩ := st
    obtain ⟨xs, hq, hx⟩ := hg
    obtain ⟨its, rv, p, hz⟩ := I.list hq
    obtain ⟨f0, f1, f2, f3, f4, f5⟩ := hf it (by simp)
    have hl := rv.length
    have hn : its.toArray.size = i := by simp; omega
    refine wpAny_pyNext_enum_endD (Draws.list (show X.A.in1.handled = none from I.ok.hd hc) it a nia its.toArray) he ⟨by rw [hn]; exact hit, p.isList⟩ fun h' eb => ⟨rfl, I.turned (t' := s.toks) (fun b o hb q => eb b o hb q) f0 f1 f3 f4 f5⟩
  self := fun A i s Q E st h => let ⟨⟨_, he⟩, _⟩ := st; wpAny_pyIter_enum he h
theorem callWith_typeK {M : Model} {A : Around} {E : Value → Shared → Prop} {s : Shared} {env : Env} {pos : Pos} {T : String} {e : Expr} {kws : List Keyword} {Q : Value → Shared → Prop}
    (h : wpAny M A (spliced (backTo pos (starEach [e] env))) (fun vs s₁ => wpAny M A (evalAll ((backToKw pos (keywordEach kws env)).map (·.2)))
      (fun kvs s₂ => wpAny M A (call (.type T) vs (((backToKw pos (keywordEach kws env)).filterMap (·.1)).zip kvs)) Q E s₂) E s₁) E s)
    (he : ∃ t, backTo pos (starEach [e] env) = [(false, t)])
    (hall : (backToKw pos (keywordEach kws env)).all (·.1.isSome) = true)
    (hkw : (backToKw pos (keywordEach kws env)).any (·.1.isNone) = false) :
    wpAny M A (callWith pos (.type T) [] (backTo pos (starEach [e] env)) (backToKw pos (keywordEach kws env))) Q E s := by
  obtain ⟨t, he⟩ := he
  rw [he] at h ⊢
  unfold callWith
  refine wpAny_bind (wpAny_holding (wpAny_mono (evalArgs_kwB (Q := fun a s₁ => wpAny M A (call (.type T) ([] ++ a.pos) a.kw) Q E s₁) hall h) (fun a s₁ h₁ => wpAny_bind (wpAny_standAt ?_)) fun _ _ x => x))
  simp only [hkw, List.any_cons, List.any_nil, Bool.or_false]
  refine wpAny_bind (wpAny_pure ?_)
  exact wpAny_bind (wpAny_mono h₁ (fun r s₂ hr => wpAny_bind (wpAny_holding (wpAny_point (wpAny_pure hr)))) fun _ _ x => x)
def iEnumF (K : PySem.W.Frag) (ta tk : TA) : TI := fun σ H R => ta σ H fun vs H1 => tk σ H1 fun zs H2 => ∃ a xs k0, vs = [.ref a] ∧ zs = [.int k0] ∧ SqL K H2 a xs ∧ -(2 ^ 63) ≤ k0 ∧ k0 < 2 ^ 63 ∧ R (IteF K k0 a) H2
theorem pi_enumF {X : Cx} {e : Expr} {kws : List Keyword} {ta tk : TA} {p pos tpos : Pos} {elts : List Expr} {kk : Nat} (hg : Gl X "enumerate") (hm : X.mg "enumerate" = none) (ha : PA X [e] ta) (hk : PK X kws tk)
    (he : ∃ t, backTo pos (starEach [e] X.env) = [(false, t)])
    (hall : (backToKw pos (keywordEach kws X.env)).all (·.1.isSome) = true) (hnone : (backToKw pos (keywordEach kws X.env)).any (·.1.isNone) = false) (hks : (backToKw pos (keywordEach kws X.env)).filterMap (·.1) = [Str.ofString "start"]) :
    PI X (.Tuple elts kk tpos) (.Call (.Name "enumerate" p) [e] kws pos) (iEnumF X.K ta tk) := by
  refine ⟨fun pins s σ H R I h => ?_⟩
  refine wpAny_Call_Name_kw (ld_blt I hg hm boot_enumerate (callWith_typeK (thn (ha.run pos pins s σ H _ I h) fun us s1 ⟨vs, H1, I1, r1, q1⟩ => thn (hk.run pos pins s1 σ H1 _ I1 q1) fun ws s2 ⟨zs, H2, I2, r2, q2⟩ => ?_) he hall hnone))
  obtain ⟨a, xs, k0, rfl, rfl, hq, k1, k2, q⟩ := q2
  rw [hks, Vals.ref1 r1]
  cases r2 with
  | cons r rr =>
    cases rr
    obtain ⟨tk0, rfl⟩ := r
    obtain ⟨its, rv, p', hz⟩ := I2.list hq
    have hal : a < s2.heap.objs.size := by obtain ⟨_, q, _⟩ := p'.isList; exact Heap.lt_size q
    refine enum_begins_start (begins_list a its.toArray) p'.isList k1 k2 fun h' hE hit hsz hkp => wpAny_pyIter_enum hE ?_
    have I3 : Inv X pins σ H2 { s2 with heap := h' } := I2.kept (t' := s2.toks) hkp
    refine ⟨s2.heap.objs.size + 1, [s2.heap.objs.size + 1, s2.heap.objs.size], _, _, H2, rfl, I3, turn_enumF k0 a (s2.heap.objs.size + 1) s2.heap.objs.size (Nat.ne_of_gt (Nat.lt_succ_of_lt hal)) (Nat.ne_of_lt hal), ⟨⟨.none, by rw [Int.natCast_zero, Int.add_zero]; exact hE⟩, ⟨_, hit, rfl, rfl⟩, Nat.succ_ne_self _⟩, fun b hb => ?_, q⟩
    have e' : b = s2.heap.objs.size + 1 ∨ b = s2.heap.objs.size := by simpa using hb
    have hle : s2.heap.objs.size ≤ b := by
      rcases e' with z | z
      · rw [z]; exact Nat.le_add_right _ _
      · rw [z]; exact Nat.le_refl _
    exact I2.fpOk hle (I2.hok.fresh hle)
theorem walk_enumF {K : PySem.W.Frag} {k0 : Int} {a : Addr} {xs : List V} : Walk (IteF K k0 a) xs.length (fun H => SqL K H a xs) (YPair (fun i => some (.int (k0 + (i : Nat)))) (fun i => xs[i]?)) := by
  refine ⟨fun i _ hi q => ⟨xs, xs[i], q, by simp [hi]⟩, fun _ q => ⟨xs, q, rfl⟩, fun i H v H' _ q y => ?_⟩
  obtain ⟨T, x, h1, h2, h3, h4⟩ := y
  exact ⟨T, .int (k0 + (i : Nat)), x, h1, h2, h3, rfl, h4 xs q⟩

open LamX
theorem atI_m1 {xs : List V} {v : V} (h : xs[xs.length - 1]? = some v) : atI xs (-1) = some v := by
  have lt := (List.getElem?_eq_some_iff.mp h).1
  unfold atI ixN
  rw [if_neg (by omega), if_pos (by omega)]
  show xs[(-1 + (xs.length : Int)).toNat]? = some v
  rw [show (-1 + (xs.length : Int)).toNat = xs.length - 1 by omega]
  exact h
theorem TbL.refl {P : Addr} {q : Str} {H : Hp} (t : TabS H P q) : TbL P q H H := ⟨t, fun _ _ e _ => e⟩
theorem TbL.trans {P : Addr} {q : Str} {H H1 H2 : Hp} (a : TbL P q H H1) (b : TbL P q H1 H2) : TbL P q H H2 := ⟨b.1, fun x o e n => b.2 x o (a.2 x o e n) n⟩
theorem TbL.of {P : Addr} {q : Str} {H H2 : Hp} (t : TabS H P q) (s : Same H H2) : TbL P q H H2 := ⟨t.ext s, fun b o e _ => s b o e⟩
theorem TbL.lst {P : Addr} {q : Str} {H H2 : Hp} {a : Addr} {xs : List V} (t : TbL P q H H2) (e : H a = some (.lst xs)) : H2 a = some (.lst xs) := t.2 _ _ e fun _ z => nomatch z
theorem TbL.tup {P : Addr} {q : Str} {H H2 : Hp} {a : Addr} {xs : List V} (t : TbL P q H H2) (e : H a = some (.tup xs)) : H2 a = some (.tup xs) := t.2 _ _ e fun _ z => nomatch z
theorem LsA.tbl {P : Addr} {q : Str} {H H2 : Hp} {a : Addr} {ps : List (Int × Int)} (h : LsA H a ps) (t : TbL P q H H2) : LsA H2 a ps := by
  obtain ⟨us, e, p⟩ := h
  exact ⟨us, t.lst e, p.1, fun i r er => let ⟨x, h1, h2⟩ := p.2 i r er; ⟨x, h1, t.tup h2⟩⟩
theorem TabS.upd {H : Hp} {P : Addr} {q : Str} {l : Addr} {xs : List V} {o : HO} (t : TabS H P q) (e : H l = some (.lst xs)) : TabS (L2.upd H l o) P q := by
  obtain ⟨ps, hP, ht, hc⟩ := t
  refine ⟨ps, by rw [upd_ne (ne_of hP e (fun z => nomatch z))]; exact hP, ht, fun pos cv hcv => ?_⟩
  obtain ⟨c, ec, hco⟩ := hc pos cv hcv
  refine ⟨c, ec, ?_⟩
  rw [upd_ne (ne_of hco e (fun z => by unfold CodeO at z; cases z))]
  exact hco

/-! ### the draws of runs and of what is gone -/
theorem ris_filter {pb : Int × Int → Bool} : ∀ {lo : Int} {ps : List (Int × Int)}, Ris lo ps → Ris lo (ps.filter pb)
  | _, [], _ => True.intro
  | lo, p :: r, h => by
    by_cases c : pb p = true
    · rw [List.filter_cons_of_pos c]
      exact ⟨h.1, h.2.1, ris_filter h.2.2⟩
    · rw [List.filter_cons_of_neg c]
      exact ris_filter (h.2.2.mono (by have := h.1; have := h.2.1; omega))
theorem eqv_none {α : Type} (f : α → PyData) (ps : List α) : PyData.eqv (PyData.list (ps.map f)) (PyData.list []) = ps.isEmpty := by
  cases ps with
  | nil => simp [PyData.eqv, PyData.eqvAll]
  | cons p r => simp [PyData.eqv, PyData.eqvAll]
/-- xs != [], of pairs -/
theorem ne_nilP {K : PySem.W.Frag} {H : Hp} {p l : Addr} {ps : List (Int × Int)} {Q : VK} (h : LsA H p ps) (el : H l = some (.lst [])) (q : Q (.bl (!ps.isEmpty)) H) : rNeD K (.ref p) (.ref l) H Q :=
  ⟨_, .list [], h.dp, .lst (SqL.of el) .nil, shaped_prs ps, by rfl, by rw [eqv_none]; exact q⟩
theorem LsA.kp {H H' : Hp} {d c a : Addr} {t : Int} {ps : List (Int × Int)} (h : LsA H a ps) (S : StAt H d c t) (k : Kp d c H H') (n : a ≠ d ∧ a ≠ c) : LsA H' a ps := let ⟨us, e, p⟩ := h; ⟨us, k _ _ n.1 n.2 e, p.kp S k⟩
theorem pick_at {xs : List V} {n : Nat} (hn : xs.length = n) {r : Int} (r0 : 0 ≤ r) (r1 : r < n) : ∃ v, atI xs r = some v ∧ v ∈ xs := by
  obtain ⟨k, rfl⟩ := Int.eq_ofNat_of_zero_le r0
  have lt : k < xs.length := by omega
  exact ⟨_, atI_nat (List.getElem?_eq_getElem lt), List.getElem_mem lt⟩
def spGone : Sp := fun vs H Q _ => ∃ (d c : Addr) (t most rare : Int), vs = [.ref d, .int most, .int rare] ∧ StAt H d c t ∧ t < 2 ^ 58 ∧ 1 ≤ rare ∧ rare ≤ 1000 ∧
  ∀ l gs H' t', H l = none → LsA H' l gs → Ris 0 gs → (∀ p ∈ gs, p.2 ≤ most) → gs.length ≤ 24 → t ≤ t' → t' ≤ t + 200 → StAt H' d c t' → Kp d c H H' → Q (.ref l) H'
def RunOk (most : Int) (rs : List (Int × Int)) : Prop := ∀ r ∈ rs, 0 ≤ r.1 ∧ r.1 ≤ r.2 ∧ r.2 ≤ most
def spRuns : Sp := fun vs H Q _ => ∃ (d c : Addr) (t many most wide : Int), vs = [.ref d, .int many, .int most, .int wide] ∧ StAt H d c t ∧ t < 2 ^ 58 ∧ 0 ≤ many ∧ many ≤ 900 ∧ 0 ≤ most ∧ most ≤ 2 ^ 60 ∧ 1 ≤ wide ∧ wide ≤ 2 ^ 60 ∧
  ∀ l rs H' t', H l = none → LsA H' l rs → RunOk most rs → (rs.length : Int) = many → t ≤ t' → t' ≤ t + 10 * many → StAt H' d c t' → Kp d c H H' → Q (.ref l) H'
abbrev sGone : Stmt := topS 25
theorem scGone : FnScope ["_law_state", "_law_most", "_law_rare", "_law_found", "_law_number", "_law_turn", "_law_last", "_law_pair"] ["_law_state", "_law_most", "_law_rare"] (defScope sGone) := ⟨rfl, rfl, rfl, by decide +kernel, rfl, by decide +kernel, by decide +kernel⟩
abbrev sRuns : Stmt := topS 26
theorem scRuns : FnScope ["_law_state", "_law_many_here", "_law_most", "_law_wide", "_law_runs_here", "_law_turn", "_law_kind", "_law_first", "_law_last"] ["_law_state", "_law_many_here", "_law_most", "_law_wide"] (defScope sRuns) := ⟨rfl, rfl, rfl, by decide +kernel, rfl, by decide +kernel, by decide +kernel⟩
section
variable {K : PySem.W.Frag} {mg : Str → Option Value} {P : Program} {w : World} {base : Heap}
theorem ok_Gone {f : Addr} {fd : FuncData} (F : Fun K "_law_gone" "_law_gone" sGone f fd) (C__law_take : Cal P w K mg base 1 "_law_take" ["_law_state", "_law_many_here"] spTake) (m_range : mg "range" = none) : FnOk P w K mg base CX0 2 f fd ["_law_state", "_law_most", "_law_rare"] spGone := by
  refine F.ok scGone (fun vs H Q E h => ?_) (fun cdv A outer s H vs Q E hr h => ?_)
  · obtain ⟨d, c, t, most, rare, rfl, _⟩ := h
    rfl
  · obtain ⟨d, c, t, most, rare, rfl, hS, ht, r0, r1, q⟩ := h
    refine ⟨_, pss_cons (ps_par rfl scGone.nd (i := 3) (j := 4) rfl rfl (by decide) rfl rfl (pa_cons (pe_lst pa_nil) (pa_cons (pe_own C__law_take hr (by rfl) (pa_cons (pv 0) (pa_cons pe_int pa_nil))) pa_nil)) (by rfl))
      (pss_cons (ps_for PassesOwn.never rfl (pi_range1 rfl m_range (pa_cons pe_int pa_nil)) (pg_name (i := 5) scGone.nd rfl (.inl rfl))
        (Evl.pss_cut (ps_if (PW.pt (pw_and (pt_cmpR op_le (pv 4) (pv 1) (nomark _)) (pw_and1 (pt_cmpR op_gt (pe_own C__law_take hr (by rfl) (pa_cons (pv 0) (pa_cons (pv 2) pa_nil))) pe_int (nomark _))))) (pss_cons (ps_set (i := 6) scGone.nd rfl (.inl rfl) (pe_op op_add (pv 4) (pe_ix ix_list (pe_lst (pa_cons pe_int (pa_cons (pe_own C__law_take hr (by rfl) (pa_cons (pv 0) (pa_cons pe_int pa_nil))) pa_nil))) (pe_own C__law_take hr (by rfl) (pa_cons (pv 0) (pa_cons pe_int pa_nil))) (fun _ _ => rfl))))
          (pss_cons (ps_expr (pe_bm PySem.F.plainAttrs_list PySem.F.slot_list_append PySem.F.type_list_append mt_append (pv 3) (pa_cons (pe_tup (pa_cons (pv 4) (pa_cons (pv 6) pa_nil))) pa_nil)))
          (pss_one (ps_set (i := 4) scGone.nd rfl (.inl rfl) (pv 6)))))
          pss_nil)
        (pss_one (ps_set (i := 4) scGone.nd rfl (.inl rfl) (pe_op op_add (pe_op op_add (pv 4) pe_int) (pe_own C__law_take hr (by rfl) (pa_cons (pv 0) (pa_cons (pv 2) pa_nil))))))))
      (pss_one (ps_ret (pe_lc (own := [("_law_pair", 7)]) (g := (gName 7)) (tt := (tTest (tOp (rI0 fun i j => .bl (decide (i ≤ j))) (tOp (rIxT K) (tVar 7) (tC (.int 1))) (tVar 1)))) (te := (tVar 7)) rfl scGone.nd (pi_list (pv 3)) (blkOk_by (own := [("_law_pair", 7)]) (N := ["_law_state", "_law_most", "_law_rare", "_law_found", "_law_number", "_law_turn", "_law_last", "_law_pair"]) (sc := defScope sGone) (by decide +kernel)) (fun _ _ _ _ _ => (pg_name (i := 7) scGone.nd rfl (.inl rfl))) (fun _ _ _ _ _ => (pts_one (pt_cmpR op_le (pe_ix ix_tup (pv 7) pe_int (fun _ _ => rfl)) (pv 1) (nomark _)))) (fun _ _ _ _ _ => (pv 7)))))), ?_⟩
    refine ⟨Nat.zero_le _, fun p np => ?_⟩
    have sp := same_upd (o := .lst []) np
    have offp := hS.off np
    refine ⟨_, rfl, d, c, t, 3, rfl, hS.same sp, by omega, by decide, by decide, fun n0 H1 n00 n01 hS1 k1 => ⟨_, _, rfl, ?_⟩⟩
    have k01 := (Kp.same d c sp).trans k1
    refine ⟨24, rfl, by decide, by decide, for_range (n := 24) (fun i σ Hx => ∃ (gs : List (Int × Int)) (num t' : Int) (y5 y6 y7 : Option V), σ = [some (.ref d), some (.int most), some (.int rare), some (.ref p), some (.int num), y5, y6, y7] ∧ LsA Hx p gs ∧ Ris 0 gs ∧ (∀ q ∈ gs, q.2 + 2 ≤ num) ∧ 0 ≤ num ∧ gs.length ≤ i ∧ t ≤ t' ∧ t' ≤ t + 1 + 5 * (i : Int) ∧ StAt Hx d c t' ∧ Kp d c H Hx) ⟨[], n0, t + 1, _, _, _, rfl, LsA.nil (k1 _ _ offp.1 offp.2 upd_same), True.intro, (fun _ h => nomatch h), n00, Nat.le_refl _, by omega, by omega, hS1, k01⟩ (fun i σ Hx hi hP => ?_) (fun σ Hx hP => ?_)⟩
    · obtain ⟨gs, num, t', y5, y6, y7, rfl, hL, hr, hq, h0, hl, u0, u1, hS2, k2⟩ := hP
      have hi24 : (i : Int) < 24 := by omega
      refine ⟨fun σ' H' => ∃ (gs : List (Int × Int)) (num t' : Int) (y6 : Option V), σ' = [some (.ref d), some (.int most), some (.int rare), some (.ref p), some (.int num), some (.int (0 + (i : Int))), y6, y7] ∧ LsA H' p gs ∧ Ris 0 gs ∧ (∀ q ∈ gs, q.2 ≤ num) ∧ 0 ≤ num ∧ gs.length ≤ i + 1 ∧ t ≤ t' ∧ t' ≤ t + 4 + 5 * (i : Int) ∧ StAt H' d c t' ∧ Kp d c H H', ?_, ?_⟩
      · have skip : ∀ H' t3, LsA H' p gs → t ≤ t3 → t3 ≤ t + 4 + 5 * (i : Int) → StAt H' d c t3 → Kp d c H H' → ∃ (gs' : List (Int × Int)) (num' t' : Int) (y6' : Option V), [some (V.ref d), some (.int most), some (.int rare), some (.ref p), some (.int num), some (.int (0 + (i : Int))), y6, y7] = [some (.ref d), some (.int most), some (.int rare), some (.ref p), some (.int num'), some (.int (0 + (i : Int))), y6', y7] ∧ LsA H' p gs' ∧ Ris 0 gs' ∧ (∀ q ∈ gs', q.2 ≤ num') ∧ 0 ≤ num' ∧ gs'.length ≤ i + 1 ∧ t ≤ t' ∧ t' ≤ t + 4 + 5 * (i : Int) ∧ StAt H' d c t' ∧ Kp d c H H' := fun H' t3 h1 h2 h3 h4 h5 => ⟨gs, num, t3, y6, rfl, h1, hr, fun q hq' => by have := hq q hq'; omega, h0, by omega, h2, h3, h4, h5⟩
        refine ⟨_, rfl, _, rfl, _, _, rfl, rfl, _, rfl, ite2 (fun c1 => ?_) (fun c1 => ite2 (fun z => nomatch z) (fun _ => skip Hx t' hL u0 (by omega) hS2 k2))⟩
        refine ⟨_, rfl, _, rfl, d, c, t', rare, rfl, hS2, by omega, by omega, by omega, fun r2 H3 r20 r21 hS3 k3 => ?_⟩
        have hL3 := hL.kp hS2 k3 offp
        refine ⟨_, _, rfl, rfl, _, rfl, ite2 (fun c2 => ?_) (fun c2 => skip H3 (t' + 1) hL3 (by omega) (by omega) hS3 (k2.trans k3))⟩
        refine ⟨_, rfl, _, rfl, d, c, t' + 1, 3, rfl, hS3, by omega, by decide, by decide, fun r3 H4 r30 r31 hS4 k4 => ?_⟩
        refine ⟨(by show 2 ≤ sizeLine; decide), fun L nL => ?_⟩
        have sL := same_upd (o := .lst [.int 0, .int r3]) nL
        have offL := hS4.off nL
        refine ⟨_, rfl, d, c, t' + 1 + 1, 2, rfl, hS4.same sL, by omega, by decide, by decide, fun r4 H5 r40 r41 hS5 k5 => ?_⟩
        obtain ⟨v, v0, ev⟩ := pick2 (fun v => 0 ≤ v) (x := 0) (y := r3) r40 r41 (Int.le_refl _) r30
        refine ⟨L, _, r4, _, rfl, rfl, SqL.of (k5 _ _ offL.1 offL.2 upd_same), ev, num, v, rfl, rfl, ?_⟩
        have hL5 := ((hL3.kp hS3 k4 offp).same sL).kp (hS4.same sL) k5 offp
        have k05 := ((k2.trans k3).trans k4).trans ((Kp.same d c sL).trans k5)
        obtain ⟨us, ep, hpr⟩ := hL5
        refine ⟨_, rfl, .inl ⟨rfl, _, SqL.of ep⟩, _, rfl, _, rfl, (by show 2 ≤ sizeLine; decide), fun T nT => ?_⟩
        have sT := same_upd (o := .tup [.int num, .int (num + v)]) nT
        have lu := hpr.1
        refine ⟨p, _, _, rfl, rfl, sT _ _ ep, small1000 (by omega), ?_⟩
        refine ⟨_, rfl, gs ++ [(num, num + v)], num + v, t' + 1 + 1 + 1, _, rfl, ⟨_, upd_same, ((hpr.same sT).snoc upd_same).upd_lst (sT _ _ ep)⟩, hr.snoc h0 hq (by omega), fun q hq' => ?_, by omega, by rw [List.length_append]; show gs.length + 1 ≤ _; omega, by omega, by omega, (hS5.same sT).upd offp.1 offp.2, fun b o b1 b2 e => ?_⟩
        · rcases List.mem_append.mp hq' with z | z
          · have := hq q z; omega
          · rw [List.mem_singleton.mp z]; exact Int.le_refl _
        · rw [upd_ne (ne_of_none e np)]
          exact sT _ _ (k05 b o b1 b2 e)
      · rintro σ3 H3 ⟨gs, num, t3, y6, rfl, hL, hr, hq, h0, hl, v0, v1, hS3, k3⟩
        refine ⟨_, rfl, _, _, rfl, rfl, _, rfl, _, rfl, d, c, t3, rare, rfl, hS3, by omega, by omega, by omega, fun r2 H4 r20 r21 hS4 k4 => ⟨_, _, rfl, rfl, ?_⟩⟩
        exact ⟨gs, num + 2 + r2, t3 + 1, _, _, _, rfl, hL.kp hS3 k4 offp, hr, fun q hq' => by have := hq q hq'; omega, by omega, hl, by omega, by omega, hS4, k3.trans k4⟩
    · obtain ⟨gs, num, t', y5, y6, y7, rfl, hL, hr, hq, h0, hl, u0, u1, hS2, k2⟩ := hP
      obtain ⟨us, ep, hpr⟩ := hL
      refine ⟨_, rfl, p, rfl, ⟨_, SqL.of ep⟩, fun G nG => lc_list (xs := us) (fun j H' => Same Hx H' ∧ ∃ ws, H' G = some (.lst ws) ∧ Prs H' ws ((gs.take j).filter fun p => decide (p.2 ≤ most))) ⟨same_upd nG, [], upd_same, Prs.nil⟩ (fun j H' _ hP => SqL.of (hP.1 _ _ ep)) (fun j x H' hx hP => ?_) (fun H9 hP => ?_)⟩
      · obtain ⟨sm, ws, eG, hw⟩ := hP
        obtain ⟨g, T, eg, rfl, eT⟩ := prs_at hpr hx
        have et : (gs.take (j + 1)).filter (fun p => decide (p.2 ≤ most)) = (gs.take j).filter (fun p => decide (p.2 ≤ most)) ++ (if g.2 ≤ most then [g] else []) := by
          rw [List.take_add_one, eg, List.filter_append]
          show _ ++ List.filter (fun p => decide (p.2 ≤ most)) [g] = _
          by_cases c : g.2 ≤ most <;> simp [c]
        have lg : j < gs.length := (List.getElem?_eq_some_iff.mp eg).1
        refine ⟨rfl, _, rfl, T, _, 1, _, rfl, rfl, .inl (.inl (sm _ _ eT)), atI_nat (j := 1) rfl, _, rfl, _, _, rfl, rfl, _, rfl, ite2 (fun c1 => ?_) (fun c1 => ?_)⟩
        · have c1' : g.2 ≤ most := of_decide_eq_true c1
          have lw : ws.length ≤ 24 := by
            rw [hw.1]
            exact Nat.le_trans (List.length_filter_le ..) (by rw [List.length_take]; omega)
          refine ⟨_, rfl, _, eG, small1000 (by omega), fun b o e => ?_, _, upd_same, ?_⟩
          · rw [upd_ne (ne_of_none e nG)]
            exact sm b o e
          · rw [et, if_pos c1']
            exact (hw.snoc (sm _ _ eT)).upd_lst eG
        · refine ⟨sm, ws, eG, ?_⟩
          rw [et, if_neg (fun z => c1 (decide_eq_true z)), List.append_nil]
          exact hw
      · obtain ⟨sm, ws, eG, hw⟩ := hP
        have ll : us.length = gs.length := hpr.1
        rw [ll, List.take_length] at hw
        exact q G _ H9 t' (k2.free hS2 nG) ⟨ws, eG, hw⟩ (ris_filter hr) (fun p hp => of_decide_eq_true (List.mem_filter.mp hp).2) (Nat.le_trans (List.length_filter_le ..) hl) u0 (by omega) (hS2.same sm) (k2.trans (Kp.same d c sm))
theorem ok_Runs {f : Addr} {fd : FuncData} (F : Fun K "_law_runs" "_law_runs" sRuns f fd) (C__law_take : Cal P w K mg base 1 "_law_take" ["_law_state", "_law_many_here"] spTake) (m_range : mg "range" = none) (m_min : mg "min" = none) (m_len : mg "len" = none) : FnOk P w K mg base CX0 2 f fd ["_law_state", "_law_many_here", "_law_most", "_law_wide"] spRuns := by
  refine F.ok scRuns (fun vs H Q E h => ?_) (fun cdv A outer s H vs Q E hr h => ?_)
  · obtain ⟨d, c, t, many, most, wide, rfl, _⟩ := h
    rfl
  · obtain ⟨d, c, t, many, most, wide, rfl, hS, ht, m0, m1, mo0, mo1, w0, w1, q⟩ := h
    refine ⟨_, pss_cons (ps_set (i := 4) scRuns.nd rfl (.inl rfl) (pe_lst pa_nil))
      (pss_cons (ps_for PassesOwn.never rfl (pi_range1 rfl m_range (pa_cons (pv 1) pa_nil)) (pg_name (i := 5) scRuns.nd rfl (.inl rfl))
        (pss_cons (ps_set (i := 6) scRuns.nd rfl (.inl rfl) (pe_own C__law_take hr (by rfl) (pa_cons (pv 0) (pa_cons pe_int pa_nil))))
        (pss_cons (ps_set (i := 7) scRuns.nd rfl (.inl rfl) (pe_own C__law_take hr (by rfl) (pa_cons (pv 0) (pa_cons (pe_op op_add (pv 2) pe_int) pa_nil))))
        (pss_cons (ps_set (i := 8) scRuns.nd rfl (.inl rfl) (pe_callB (call_min2 rfl) (by rfl) m_min (by decide +kernel) (pa_cons (pv 2) (pa_cons (pe_op op_add (pv 7) (pe_own C__law_take hr (by rfl) (pa_cons (pv 0) (pa_cons (pv 3) pa_nil)))) pa_nil))))
        (Evl.pss_cut (ps_if (PW.pt (pw_and (pt_cmpR op_eq (pv 6) pe_int (nomark _)) (pw_and1 (pt_cmpR (op_neD hr.units) (pv 4) (pe_lst pa_nil) (nomark _))))) (pss_one (ps_asg (pe_ix ix_list (pv 4) (pe_own C__law_take hr (by rfl) (pa_cons (pv 0) (pa_cons (pe_callB call_len_seq (by rfl) m_len PySem.boot_len (pa_cons (pv 4) pa_nil)) pa_nil))) (fun _ _ => rfl)) (pg_tup rfl (pgs_cons (pg_name (i := 7) scRuns.nd rfl (.inl rfl)) (pgs_cons (pg_name (i := 8) scRuns.nd rfl (.inl rfl)) pgs_nil)))))
          pss_nil)
        (Evl.pss_cut (ps_if (PW.pt (pw_and (pt_cmpR op_eq (pv 6) pe_int (nomark _)) (pw_and1 (pt_cmpR (op_neD hr.units) (pv 4) (pe_lst pa_nil) (nomark _))))) (pss_cons (ps_set (i := 7) scRuns.nd rfl (.inl rfl) (pe_callB (call_min2 rfl) (by rfl) m_min (by decide +kernel) (pa_cons (pv 2) (pa_cons (pe_op op_add (pe_ix ix_tup (pe_ix ix_list (pv 4) (pe_un un_neg pe_int) (fun _ _ => rfl)) pe_int (fun _ _ => rfl)) (pe_own C__law_take hr (by rfl) (pa_cons (pv 0) (pa_cons pe_int pa_nil)))) pa_nil))))
          (pss_one (ps_set (i := 8) scRuns.nd rfl (.inl rfl) (pe_callB (call_min2 rfl) (by rfl) m_min (by decide +kernel) (pa_cons (pv 2) (pa_cons (pe_op op_add (pv 7) (pe_own C__law_take hr (by rfl) (pa_cons (pv 0) (pa_cons (pv 3) pa_nil)))) pa_nil))))))
          pss_nil)
        (pss_one (ps_expr (pe_bm PySem.F.plainAttrs_list PySem.F.slot_list_append PySem.F.type_list_append mt_append (pv 4) (pa_cons (pe_tup (pa_cons (pv 7) (pa_cons (pv 8) pa_nil))) pa_nil))))))))))
      (pss_one (ps_ret (pv 4)))), ?_⟩
    refine ⟨Nat.zero_le _, fun p np => ?_⟩
    have sp := same_upd (o := .lst []) np
    have offp := hS.off np
    refine ⟨_, rfl, many, rfl, by omega, by omega, for_range (n := many.toNat) (fun i σ Hx => ∃ (rs : List (Int × Int)) (t' : Int) (y5 y6 y7 y8 : Option V), σ = [some (.ref d), some (.int many), some (.int most), some (.int wide), some (.ref p), y5, y6, y7, y8] ∧ LsA Hx p rs ∧ RunOk most rs ∧ rs.length = i ∧ t ≤ t' ∧ t' ≤ t + 10 * (i : Int) ∧ StAt Hx d c t' ∧ Kp d c H Hx) ⟨[], t, _, _, _, _, rfl, LsA.nil upd_same, (fun _ h => nomatch h), rfl, by omega, by omega, hS.same sp, Kp.same d c sp⟩ (fun i σ Hx hi hP => ?_) (fun σ Hx hP => ?_)⟩
    · obtain ⟨rs, t', y5, y6, y7, y8, rfl, hL, hro, hl, u0, u1, hS2, k2⟩ := hP
      refine ⟨_, rfl, d, c, t', 5, rfl, hS2, by omega, by decide, by decide, fun kd H3 kd0 kd1 hS3 k3 => ?_⟩
      refine ⟨_, rfl, _, rfl, _, _, rfl, rfl, d, c, t' + 1, most + 1, rfl, hS3, by omega, by omega, by omega, fun fi H4 fi0 fi1 hS4 k4 => ?_⟩
      refine ⟨_, rfl, _, rfl, _, rfl, _, rfl, d, c, t' + 1 + 1, wide, rfl, hS4, by omega, by omega, by omega, fun wi H5 wi0 wi1 hS5 k5 => ⟨_, _, rfl, rfl, _, _, rfl, ?_⟩⟩
      have hL5 := ((hL.kp hS2 k3 offp).kp hS3 k4 offp).kp hS4 k5 offp
      have k25 := (k3.trans k4).trans k5
      have mn : ∀ a b : Int, a ≤ most → 0 ≤ b → a ≤ (if a + b < most then a + b else most) ∧ (if a + b < most then a + b else most) ≤ most := fun a b h1 h2 => by split <;> omega
      refine ⟨fun σ' H' => ∃ (f l t3 : Int), σ' = [some (.ref d), some (.int many), some (.int most), some (.int wide), some (.ref p), some (.int (0 + (i : Int))), some (.int kd), some (.int f), some (.int l)] ∧ 0 ≤ f ∧ f ≤ l ∧ l ≤ most ∧ LsA H' p rs ∧ t' ≤ t3 ∧ t3 ≤ t' + 4 ∧ StAt H' d c t3 ∧ Kp d c H H', ?_, ?_⟩
      · have skip : ∀ H', Same H5 H' → ∃ (f l t3 : Int), [some (V.ref d), some (.int many), some (.int most), some (.int wide), some (.ref p), some (.int (0 + (i : Int))), some (.int kd), some (.int fi), some (.int (if fi + wi < most then fi + wi else most))] = [some (.ref d), some (.int many), some (.int most), some (.int wide), some (.ref p), some (.int (0 + (i : Int))), some (.int kd), some (.int f), some (.int l)] ∧ 0 ≤ f ∧ f ≤ l ∧ l ≤ most ∧ LsA H' p rs ∧ t' ≤ t3 ∧ t3 ≤ t' + 4 ∧ StAt H' d c t3 ∧ Kp d c H H' := fun H' s' => ⟨fi, _, t' + 1 + 1 + 1, rfl, fi0, (mn fi wi (by omega) wi0).1, (mn fi wi (by omega) wi0).2, hL5.same s', by omega, by omega, hS5.same s', (k2.trans k25).trans (Kp.same d c s')⟩
        refine ⟨_, rfl, rfl, _, rfl, ite2 (fun c1 => ?_) (fun c1 => ite2 (fun z => nomatch z) (fun _ => skip H5 (Same.refl _)))⟩
        refine ⟨_, rfl, Nat.zero_le _, fun n nn => ?_⟩
        have sn := same_upd (o := .lst []) nn
        refine ne_nilP (hL5.same sn) upd_same ⟨_, rfl, ite2 (fun c2 => ?_) (fun c2 => skip _ sn)⟩
        have pos : 0 < rs.length := by
          cases rs with
          | nil => cases c2
          | cons => simp
        have hL6 := hL5.same sn
        have hS6 := hS5.same sn
        obtain ⟨us, ep, hpr⟩ := id hL6
        have lu := hpr.1
        refine ⟨_, rfl, _, rfl, _, rfl, p, _, rfl, .inl (SqL.of ep), d, c, t' + 1 + 1 + 1, (rs.length : Int), by rw [lu]; rfl, hS6, by omega, by omega, by omega, fun r H6 r0 r1 hS7 k7 => ?_⟩
        obtain ⟨v, ev, hv⟩ := pick_at (xs := us) (n := rs.length) lu r0 r1
        obtain ⟨j, hj⟩ := List.getElem?_of_mem hv
        obtain ⟨g, T, eg, rfl, eT⟩ := prs_at hpr hj
        have eT6 := (hpr.kp hS6 k7)
        obtain ⟨g', T', eg', z', eT'⟩ := prs_at eT6 hj
        cases z'
        rw [eg] at eg'
        cases eg'
        obtain ⟨g0, g1, g2⟩ := hro g (List.mem_of_getElem? eg)
        refine ⟨p, _, r, _, rfl, rfl, SqL.of (k7 _ _ offp.1 offp.2 ep), ev, T, _, rfl, .inl (.inl eT'), rfl, _, _, rfl, _, _, rfl, rfl, ?_⟩
        exact ⟨g.1, g.2, t' + 1 + 1 + 1 + 1, rfl, g0, g1, g2, hL6.kp hS6 k7 offp, by omega, by omega, hS7, ((k2.trans k25).trans (Kp.same d c sn)).trans k7⟩
      rintro σ6 H6 ⟨f1, l1, t6, rfl, f10, f11, f12, hL6, v0, v1, hS6, k6⟩
      refine ⟨fun σ' H' => ∃ (f l t3 : Int), σ' = [some (.ref d), some (.int many), some (.int most), some (.int wide), some (.ref p), some (.int (0 + (i : Int))), some (.int kd), some (.int f), some (.int l)] ∧ 0 ≤ f ∧ f ≤ l ∧ l ≤ most ∧ LsA H' p rs ∧ t' ≤ t3 ∧ t3 ≤ t' + 8 ∧ StAt H' d c t3 ∧ Kp d c H H', ?_, ?_⟩
      · have skip : ∀ H', Same H6 H' → ∃ (f l t3 : Int), [some (V.ref d), some (.int many), some (.int most), some (.int wide), some (.ref p), some (.int (0 + (i : Int))), some (.int kd), some (.int f1), some (.int l1)] = [some (.ref d), some (.int many), some (.int most), some (.int wide), some (.ref p), some (.int (0 + (i : Int))), some (.int kd), some (.int f), some (.int l)] ∧ 0 ≤ f ∧ f ≤ l ∧ l ≤ most ∧ LsA H' p rs ∧ t' ≤ t3 ∧ t3 ≤ t' + 8 ∧ StAt H' d c t3 ∧ Kp d c H H' := fun H' s' => ⟨f1, l1, t6, rfl, f10, f11, f12, hL6.same s', by omega, by omega, hS6.same s', k6.trans (Kp.same d c s')⟩
        refine ⟨_, rfl, rfl, _, rfl, ite2 (fun c1 => ?_) (fun c1 => ite2 (fun z => nomatch z) (fun _ => skip H6 (Same.refl _)))⟩
        refine ⟨_, rfl, Nat.zero_le _, fun n nn => ?_⟩
        have sn := same_upd (o := .lst []) nn
        refine ne_nilP (hL6.same sn) upd_same ⟨_, rfl, ite2 (fun c2 => ?_) (fun c2 => skip _ sn)⟩
        have hne : rs ≠ [] := fun z => by rw [z] at c2; cases c2
        have hL7 := hL6.same sn
        have hS7 := hS6.same sn
        obtain ⟨us, ep, hpr⟩ := id hL7
        obtain ⟨rs', g, rfl⟩ : ∃ rs' g, rs = rs' ++ [g] := ⟨_, _, (List.dropLast_concat_getLast hne).symm⟩
        obtain ⟨us', T, rfl, eT, _⟩ := hpr.last
        obtain ⟨g0, g1, g2⟩ := hro g (List.mem_append_right _ (List.mem_singleton.mpr rfl))
        have em : atI (us' ++ [V.ref T]) (-1) = some (.ref T) := atI_last _ _
        refine ⟨_, rfl, _, rfl, 1, rfl, p, _, -1, _, rfl, rfl, SqL.of ep, em, ?_⟩
        refine ⟨T, _, 1, _, rfl, rfl, .inl (.inl eT), atI_nat (j := 1) rfl, ?_⟩
        refine ⟨_, rfl, d, c, t6, 2, rfl, hS7, by omega, by decide, by decide, fun r2 H8 r20 r21 hS8 k8 => ⟨_, _, rfl, rfl, _, _, rfl, ?_⟩⟩
        refine ⟨_, rfl, _, rfl, _, rfl, _, rfl, d, c, t6 + 1, wide, rfl, hS8, by omega, by omega, by omega, fun r3 H9 r30 r31 hS9 k9 => ⟨_, _, rfl, rfl, _, _, rfl, ?_⟩⟩
        have mm : ∀ x : Int, 0 ≤ x → 0 ≤ (if x < most then x else most) ∧ (if x < most then x else most) ≤ most := fun x h => by split <;> omega
        have m2 := mm (g.2 + r2) (by omega)
        exact ⟨_, _, t6 + 1 + 1, rfl, m2.1, (mn _ r3 m2.2 r30).1, (mn _ r3 m2.2 r30).2, (hL7.kp hS7 k8 offp).kp hS8 k9 offp, by omega, by omega, hS9, ((k6.trans (Kp.same d c sn)).trans k8).trans k9⟩
      rintro σ7 H7 ⟨f2, l2, t7, rfl, f20, f21, f22, hL7, v20, v21, hS7, k7⟩
      obtain ⟨us, ep, hpr⟩ := hL7
      refine ⟨_, rfl, .inl ⟨rfl, _, SqL.of ep⟩, _, rfl, _, rfl, (by show 2 ≤ sizeLine; decide), fun T nT => ?_⟩
      have sT := same_upd (o := .tup [.int f2, .int l2]) nT
      have lu := hpr.1
      refine ⟨p, _, _, rfl, rfl, sT _ _ ep, small1000 (by omega), ?_⟩
      refine ⟨rs ++ [(f2, l2)], t7, _, _, _, _, rfl, ⟨_, upd_same, ((hpr.same sT).snoc upd_same).upd_lst (sT _ _ ep)⟩, fun r hr' => ?_, by rw [List.length_append]; show rs.length + 1 = _; omega, by omega, by omega, (hS7.same sT).upd offp.1 offp.2, fun b o b1 b2 e => ?_⟩
      · rcases List.mem_append.mp hr' with z | z
        · exact hro r z
        · rw [List.mem_singleton.mp z]; exact ⟨f20, f21, f22⟩
      · rw [upd_ne (ne_of_none e np)]
        exact sT _ _ (k7 b o b1 b2 e)
    · obtain ⟨rs, t', y5, y6, y7, y8, rfl, hL, hro, hl, u0, u1, hS2, k2⟩ := hP
      exact ⟨_, rfl, q p rs Hx t' np hL hro (by omega) u0 (by omega) hS2 k2⟩
end

/-! ### great numbers -/
abbrev sGreat : Stmt := topS 24
theorem scGreat : FnScope ["_law_state", "_law_parts", "_law_turn"] ["_law_state"] (defScope sGreat) := ⟨rfl, rfl, rfl, by decide +kernel, rfl, by decide +kernel, by decide +kernel⟩
def spGreat : Sp := fun vs H Q _ => ∃ (d c : Addr) (t : Int), vs = [.ref d] ∧ StAt H d c t ∧ t + 3 < 2 ^ 60 ∧ ∀ r H', 0 ≤ r → r < 10 ^ 30 → StAt H' d c (t + 3) → Kp d c H H' → Q (.int r) H'
section
variable {K : PySem.W.Frag} {mg : Str → Option Value} {P : Program} {w : World} {base : Heap}
theorem ok_great {f : Addr} {fd : FuncData} (F : Fun K "_law_great" "_law_great" sGreat f fd) (CT : Cal P w K mg base 1 "_law_take" ["_law_state", "_law_many_here"] spTake) (mr : mg "range" = none) : FnOk P w K mg base CX0 2 f fd ["_law_state"] spGreat := by
  refine F.ok scGreat (fun vs H Q E h => ?_) (fun cdv A outer s H vs Q E hr h => ?_)
  · obtain ⟨d, c, t, rfl, _⟩ := h
    rfl
  · obtain ⟨d, c, t, rfl, hS, ht, q⟩ := h
    refine ⟨_, pss_cons (ps_setLc (i := 1) (own := [("_law_turn", 2)]) (g := gName 2) (tt := tYes) (te := tCall spTake [] E0 (tCons (tVar 0) (tCons (tOp (rI CPow fun i j => .int (i ^ j.toNat)) (tC (.int 10)) (tC (.int 10))) tNil))) rfl scGreat.nd rfl rfl rfl (pi_range1 rfl mr (pa_cons pe_int pa_nil))
            (blkOk_by (own := [("_law_turn", 2)]) (N := ["_law_state", "_law_parts", "_law_turn"]) (sc := defScope sGreat) (by decide +kernel)) (fun _ _ _ _ _ => pg_name (i := 2) scGreat.nd rfl (.inl rfl)) (fun _ _ _ _ _ => pts_nil) (fun _ _ _ _ _ => pe_own CT hr (by rfl) (pa_cons (pv 0) (pa_cons (pe_op op_pow pe_int pe_int) pa_nil))))
      (pss_one (ps_ret (pe_op op_add (pe_op op_add (pe_op op_mul (pe_ix ix_list (pv 1) pe_int (fun _ _ => rfl)) (pe_op op_pow pe_int pe_int)) (pe_op op_mul (pe_ix ix_list (pv 1) pe_int (fun _ _ => rfl)) (pe_op op_pow pe_int pe_int))) (pe_ix ix_list (pv 1) pe_int (fun _ _ => rfl))))), ?_⟩
    refine ⟨3, rfl, by decide, by decide, fun D nD => lc_range (n := 3) (fun j H' => ∃ ns : List Int, H' D = some (.lst (ns.map V.int)) ∧ ns.length = j ∧ (∀ x ∈ ns, 0 ≤ x ∧ x < 10 ^ 10) ∧ StAt H' d c (t + j) ∧ Kp d c H H') ⟨[], upd_same, rfl, (fun _ z => nomatch z), (by show StAt _ d c (t + 0); rw [Int.add_zero]; exact hS.same (same_upd nD)), Kp.same d c (same_upd nD)⟩ (fun j H' hj hP => ?_) (fun H1 hP => ?_)⟩
    · obtain ⟨ns, eD, hl, hns, hS', k'⟩ := hP
      have offD := hS.off nD
      refine ⟨rfl, _, rfl, 10, 10, rfl, rfl, ⟨by decide, by decide, by decide⟩, d, c, t + j, 10 ^ 10, rfl, hS', by omega, by decide, by decide, fun r H2 r0 r1 hS2 k2 => ?_⟩
      refine ⟨_, k2 _ _ offD.1 offD.2 eD, small1000 (by rw [List.length_map]; omega), ns ++ [r], by rw [upd_same, List.map_append]; rfl, by rw [List.length_append, hl]; rfl, fun x hx => ?_, ?_, fun b o b1 b2 e => ?_⟩
      · rcases List.mem_append.mp hx with z | z
        · exact hns x z
        · rw [List.mem_singleton.mp z]; exact ⟨r0, r1⟩
      · have ej : t + ((j + 1 : Nat) : Int) = t + (j : Int) + 1 := by omega
        rw [ej]
        exact hS2.upd offD.1 offD.2
      · rw [upd_ne (ne_of_none e nD)]
        exact k2 b o b1 b2 (k' b o b1 b2 e)
    · obtain ⟨ns, eD, hl, hns, hS1, k1⟩ := hP
      match ns, hl with
      | [x, y, z], _ =>
        obtain ⟨x0, x1⟩ := hns x (by simp)
        obtain ⟨y0, y1⟩ := hns y (by simp)
        obtain ⟨z0, z1⟩ := hns z (by simp)
        refine ⟨_, rfl, D, _, 0, .int x, rfl, rfl, SqL.of eD, rfl, 10, 20, rfl, rfl, ⟨by decide, by decide, by decide⟩, x, 10 ^ 20, rfl, rfl, .inl ⟨by omega, by omega⟩, ?_⟩
        refine ⟨_, rfl, D, _, 1, .int y, rfl, rfl, SqL.of eD, rfl, 10, 10, rfl, rfl, ⟨by decide, by decide, by decide⟩, y, 10 ^ 10, rfl, rfl, .inl ⟨by omega, by omega⟩, x * 10 ^ 20, y * 10 ^ 10, rfl, rfl, ?_⟩
        refine ⟨_, rfl, D, _, 2, .int z, rfl, rfl, SqL.of eD, rfl, x * 10 ^ 20 + y * 10 ^ 10, z, rfl, rfl, ?_⟩
        exact q _ H1 (by omega) (by omega) hS1 k1
end

/-! ### all of a run is gone -/
def inB2 (p : Int × Int) (n : Int) : Bool := decide (p.1 ≤ n) && decide (n ≤ p.2)
theorem inB2_iff {p : Int × Int} {n : Int} : inB2 p n = true ↔ p.1 ≤ n ∧ n ≤ p.2 := by simp [inB2]
def goneB (gs : List (Int × Int)) (n : Int) : Bool := gs.any fun p => inB2 p n
theorem goneB_iff {gs : List (Int × Int)} {n : Int} : goneB gs n = true ↔ InS gs n := by
  unfold goneB
  rw [List.any_eq_true]
  exact ⟨fun ⟨p, h1, h2⟩ => ⟨p, h1, inB2_iff.mp h2⟩, fun ⟨p, h1, h2⟩ => ⟨p, h1, inB2_iff.mpr h2⟩⟩
def allGB (gs : List (Int × Int)) (r : Int × Int) : Bool := ((List.range (r.2 + 1 - r.1).toNat).map fun k : Nat => goneB gs (r.1 + (k : Int))).all id
theorem allGB_iff {gs : List (Int × Int)} {r : Int × Int} : allGB gs r = true ↔ ∀ n, r.1 ≤ n → n ≤ r.2 → InS gs n := by
  unfold allGB
  rw [List.all_map, List.all_eq_true]
  constructor
  · intro h n h1 h2
    have := h (n - r.1).toNat (List.mem_range.mpr (by omega))
    have e : r.1 + ((n - r.1).toNat : Int) = n := by omega
    have this : goneB gs (r.1 + ((n - r.1).toNat : Int)) = true := this
    rw [e] at this
    exact goneB_iff.mp this
  · intro h k hk
    have := List.mem_range.mp hk
    exact goneB_iff.mpr (h _ (by omega) (by omega))

open LamX
/-! ### the fewest samples -/
theorem u65 {k : Nat} {A : Around} (r : Room k A) : A.units + 65 < cLine := by have := r.un; omega
/-- lists of sets -/
def LR (H : Hp) (us : List V) (ls : List (List (Int × Int))) : Prop := us.length = ls.length ∧ ∀ (i : Nat) l, ls[i]? = some l → ∃ a, us[i]? = some (.ref a) ∧ LsA H a l
theorem LR.same {H H' : Hp} {us : List V} {ls : List (List (Int × Int))} (h : LR H us ls) (s : Same H H') : LR H' us ls := ⟨h.1, fun i r e => let ⟨a, h1, h2⟩ := h.2 i r e; ⟨a, h1, h2.same s⟩⟩
theorem LR.tbl {P : Addr} {q : Str} {H H2 : Hp} {us : List V} {ls : List (List (Int × Int))} (h : LR H us ls) (t : TbL P q H H2) : LR H2 us ls := ⟨h.1, fun i r e => let ⟨a, h1, h2⟩ := h.2 i r e; ⟨a, h1, h2.tbl t⟩⟩
theorem LR.nil {H : Hp} : LR H [] [] := ⟨rfl, fun i p e => by simp at e⟩
theorem LR.snoc {H : Hp} {us : List V} {ls : List (List (Int × Int))} {a : Addr} {l : List (Int × Int)} (h : LR H us ls) (e : LsA H a l) : LR H (us ++ [.ref a]) (ls ++ [l]) := by
  refine ⟨by rw [List.length_append, List.length_append, h.1]; rfl, fun i r er => ?_⟩
  by_cases hi : i < ls.length
  · rw [List.getElem?_append_left hi] at er
    obtain ⟨b, h1, h2⟩ := h.2 i r er
    exact ⟨b, by rw [List.getElem?_append_left (by rw [h.1]; exact hi)]; exact h1, h2⟩
  · rw [List.getElem?_append_right (by omega)] at er
    have h0 : i - ls.length < 1 := (List.getElem?_eq_some_iff.mp er).1
    obtain rfl : i = ls.length := by omega
    rw [Nat.sub_self] at er
    cases er
    exact ⟨a, by rw [← h.1, List.getElem?_append_right (Nat.le_refl _), Nat.sub_self]; rfl, e⟩
def setD' (ps : List (Int × Int)) : PyData := .list (ps.map pairD)
theorem dp_sets {K : PySem.W.Frag} {H : Hp} : ∀ {us : List V} {ls : List (List (Int × Int))}, LR H us ls → DpAll K H us (ls.map setD')
  | [], [], _ => .nil
  | [], _ :: _, h => nomatch h.1
  | _ :: _, [], h => nomatch h.1
  | u :: us, l :: ls, h => by
    obtain ⟨a, e1, e2⟩ := h.2 0 l rfl
    have eu : u = .ref a := Option.some.inj e1
    subst eu
    exact .cons e2.dp (dp_sets ⟨Nat.succ.inj h.1, fun i r e => h.2 (i + 1) r e⟩)
theorem lay_sets : ∀ ls : List (List (Int × Int)), PyData.canLayAll0 (ls.map setD') = true
  | [] => by simp only [List.map_nil, PyData.canLayAll0]
  | l :: r => by
    rw [List.map_cons, PyData.canLayAll0, lay_sets r, setD', PyData.canLay0, lay_prs]
    rfl
theorem depth_sets : ∀ ls : List (List (Int × Int)), PyData.depthAll (ls.map setD') ≤ 2
  | [] => by simp only [List.map_nil, PyData.depthAll]; omega
  | l :: r => by
    rw [List.map_cons, PyData.depthAll, setD', PyData.depth]
    have := depth_sets r
    have := depth_prs l
    omega
theorem shaped_sets (ls : List (List (Int × Int))) : SeqAt.shaped (PyData.list (ls.map setD')) = true := by
  unfold SeqAt.shaped
  rw [PyData.canLay0, lay_sets, PyData.depth, Bool.true_and]
  exact decide_eq_true (by have := depth_sets ls; omega)
theorem eqv_set (l : List (Int × Int)) : PyData.eqv (setD' l) (.list []) = l.isEmpty := eqv_none _ _
/-- the least and the greatest of the i-th set -/
def Lf (ls : List (List (Int × Int))) (i : Nat) : Int × Int := match ls[i]? with
  | some l => (((l[0]?).getD (0, 0)).1, ((l[l.length - 1]?).getD (0, 0)).2)
  | none => (0, 0)
def kI (ls : List (List (Int × Int))) : V → Int
  | .int n => (Lf ls n.toNat).2
  | _ => 0
/-- what samples are rightly told -/
structure SampOk (rs gs : List (Int × Int)) (ns : List Int) : Prop where
  free : ∀ e ∈ ns, ¬ InS gs e ∧ ∃ r ∈ rs, r.1 ≤ e ∧ e ≤ r.2
  inc : ns.Pairwise (· < ·)
  hit : hitsAll rs ns
  low : ∀ row, (∀ e ∈ row, ¬ InS gs e) → hitsAll rs row → ns.length ≤ row.length
theorem told_Lf {rs gs : List (Int × Int)} {ls : List (List (Int × Int))} (hlj : ls.length = rs.length) (htold : ∀ (i : Nat) r l, rs[i]? = some r → ls[i]? = some l → Told (fun n => (r.1 ≤ n ∧ n ≤ r.2) ∧ ¬ InS gs n) l) (hne : ∀ l ∈ ls, l ≠ []) {i : Nat} (hi : i < rs.length) :
    ∃ r l p q, rs[i]? = some r ∧ ls[i]? = some l ∧ l[0]? = some p ∧ l[l.length - 1]? = some q ∧ Lf ls i = (p.1, q.2) ∧ ((r.1 ≤ p.1 ∧ p.1 ≤ r.2) ∧ ¬ InS gs p.1) ∧ ((r.1 ≤ q.2 ∧ q.2 ≤ r.2) ∧ ¬ InS gs q.2) ∧ ∀ n, ((r.1 ≤ n ∧ n ≤ r.2) ∧ ¬ InS gs n) → p.1 ≤ n ∧ n ≤ q.2 := by
  have e1 : rs[i]? = some rs[i] := List.getElem?_eq_getElem hi
  have hi2 : i < ls.length := by omega
  have e2 : ls[i]? = some ls[i] := List.getElem?_eq_getElem hi2
  obtain ⟨p, q, h1, h2, h3, h4, h5⟩ := told_ends (htold i _ _ e1 e2) (hne _ (List.getElem_mem hi2))
  refine ⟨_, _, p, q, e1, e2, h1, h2, ?_, h3, h4, h5⟩
  unfold Lf
  rw [e2]
  simp only [h1, h2]
  rfl
theorem samp_of {rs gs : List (Int × Int)} {ls : List (List (Int × Int))} (hlj : ls.length = rs.length) (htold : ∀ (i : Nat) r l, rs[i]? = some r → ls[i]? = some l → Told (fun n => (r.1 ≤ n ∧ n ≤ r.2) ∧ ¬ InS gs n) l) (hne : ∀ l ∈ ls, l ≠ []) {os : List Nat} {ns : List Int} {ch : List Nat} (ho : ∀ i, i ∈ os ↔ i < rs.length) (g : Gr (Lf ls) os ns ch) : SampOk rs gs ns := by
  have fr : ∀ e ∈ ns, ¬ InS gs e ∧ ∃ r ∈ rs, r.1 ≤ e ∧ e ≤ r.2 := fun e he => by
    rw [g.map] at he
    obtain ⟨i, hi, rfl⟩ := List.mem_map.mp he
    obtain ⟨r, l, p, q, e1, e2, h1, h2, h3, h4, h5, h6⟩ := told_Lf hlj htold hne ((ho i).mp (g.sub i hi))
    show ¬ InS gs (Lf ls i).2 ∧ ∃ r ∈ rs, r.1 ≤ (Lf ls i).2 ∧ (Lf ls i).2 ≤ r.2
    rw [h3]
    exact ⟨h5.2, r, List.mem_of_getElem? e1, h5.1⟩
  refine ⟨fr, g.inc, fun r hr => ?_, fun row hf hh => g.low fun i hi => ?_⟩
  · obtain ⟨i, hi⟩ := List.getElem?_of_mem hr
    have lt : i < rs.length := (List.getElem?_eq_some_iff.mp hi).1
    obtain ⟨r', l, p, q, e1, e2, h1, h2, h3, h4, h5, h6⟩ := told_Lf hlj htold hne lt
    rw [hi] at e1
    cases e1
    obtain ⟨e, he, a1, a2⟩ := g.hit i ((ho i).mpr lt)
    rw [h3] at a1 a2
    refine ⟨e, he, ?_, ?_⟩
    · have : p.1 ≤ e := a1
      have := h4.1.1
      omega
    · have : e ≤ q.2 := a2
      have := h5.1.2
      omega
  · have lt := (ho i).mp hi
    obtain ⟨r', l, p, q, e1, e2, h1, h2, h3, h4, h5, h6⟩ := told_Lf hlj htold hne lt
    obtain ⟨e, he, a1, a2⟩ := hh r' (List.mem_of_getElem? e1)
    obtain ⟨b1, b2⟩ := h6 e ⟨⟨a1, a2⟩, hf e he⟩
    rw [h3]
    exact ⟨e, he, b1, b2⟩
/-- the places in the order of their greatest -/
theorem order_of (ls : List (List (Int × Int))) (n : Nat) : ∃ os : List Nat, (rngV n).mergeSort (PySem.W.dataLe false fun x => PyData.int (kI ls x)) = os.map (fun i : Nat => V.int (i : Int)) ∧ (∀ i, i ∈ os ↔ i < n) ∧ os.length = n ∧ os.Pairwise fun i j => (Lf ls i).2 ≤ (Lf ls j).2 := by
  rw [PySem.W.dataLe_int]
  have hp := List.mergeSort_perm (rngV n) (fun a b => decide (kI ls a ≤ kI ls b))
  have hs := List.pairwise_mergeSort (le := fun a b => decide (kI ls a ≤ kI ls b)) (fun a b c h1 h2 => decide_eq_true (Int.le_trans (of_decide_eq_true h1) (of_decide_eq_true h2))) (fun a b => by
    rcases Int.le_total (kI ls a) (kI ls b) with z | z
    · rw [decide_eq_true z]; rfl
    · rw [decide_eq_true z, Bool.or_true]) (rngV n)
  revert hp hs
  generalize (rngV n).mergeSort (fun a b => decide (kI ls a ≤ kI ls b)) = xs
  intro hp hs
  have bk : ∀ x ∈ xs, ∃ i : Nat, i < n ∧ x = V.int (i : Int) := fun x hx => by
    obtain ⟨i, hi, rfl⟩ := List.mem_map.mp (hp.mem_iff.mp hx)
    exact ⟨i, List.mem_range.mp hi, rfl⟩
  let nt : V → Nat := fun x => match x with | .int n => n.toNat | _ => 0
  have e : xs = (xs.map nt).map (fun i : Nat => V.int (i : Int)) := by
    rw [List.map_map]
    conv => lhs; rw [← List.map_id xs]
    refine List.map_congr_left fun x hx => ?_
    obtain ⟨i, _, rfl⟩ := bk x hx
    show V.int (i : Int) = V.int (((i : Int).toNat : Nat) : Int)
    simp
  refine ⟨xs.map nt, e, fun i => ⟨fun hi => ?_, fun hi => ?_⟩, by rw [List.length_map, hp.length_eq, List.length_map, List.length_range], ?_⟩
  · obtain ⟨x, hx, rfl⟩ := List.mem_map.mp hi
    obtain ⟨i, hi, rfl⟩ := bk x hx
    show (i : Int).toNat < n
    omega
  · exact List.mem_map.mpr ⟨V.int (i : Int), hp.mem_iff.mpr (List.mem_map.mpr ⟨i, List.mem_range.mpr hi, rfl⟩), by show (i : Int).toNat = i; omega⟩
  · rw [List.pairwise_map]
    refine List.Pairwise.imp_of_mem (fun {a b} ha hb h => ?_) hs
    obtain ⟨i, _, rfl⟩ := bk a ha
    obtain ⟨j, _, rfl⟩ := bk b hb
    exact of_decide_eq_true h

/-! ### the greedy way, step by step -/
def grS (L : Nat → Int × Int) (s : List Int × List Nat) (i : Nat) : List Int × List Nat := if ∀ e ∈ s.1, e < (L i).1 then (s.1 ++ [(L i).2], s.2 ++ [i]) else s
def grF (L : Nat → Int × Int) (os : List Nat) : List Int × List Nat := os.foldl (grS L) ([], [])
theorem grF_snoc {L : Nat → Int × Int} {os : List Nat} {i : Nat} : grF L (os ++ [i]) = grS L (grF L os) i := by
  unfold grF
  rw [List.foldl_append]
  rfl
theorem sorted_one : ∀ {xs ys : List Int}, xs.Perm ys → xs.Pairwise (· ≤ ·) → ys.Pairwise (· ≤ ·) → xs = ys
  | [], ys, h, _, _ => (List.nil_perm.mp h).symm ▸ rfl
  | x :: xs, [], h, _, _ => absurd h.length_eq (by simp)
  | x :: xs, y :: ys, h, h1, h2 => by
    obtain ⟨a1, a2⟩ := List.pairwise_cons.mp h1
    obtain ⟨b1, b2⟩ := List.pairwise_cons.mp h2
    have le1 : x ≤ y := by
      rcases List.mem_cons.mp (h.mem_iff.mpr (List.mem_cons_self ..) : y ∈ x :: xs) with z | z
      · rw [z]; exact Int.le_refl _
      · exact a1 y z
    have le2 : y ≤ x := by
      rcases List.mem_cons.mp (h.mem_iff.mp (List.mem_cons_self ..) : x ∈ y :: ys) with z | z
      · rw [z]; exact Int.le_refl _
      · exact b1 x z
    obtain rfl : x = y := Int.le_antisymm le1 le2
    rw [sorted_one ((List.perm_cons x).mp h) a2 b2]
/-- what is told of runs none of which is gone whole -/
structure LeastT (rs gs : List (Int × Int)) (ns ap : List Int) : Prop where
  ex : ∃ (ls : List (List (Int × Int))) (os ch : List Nat), ls.length = rs.length ∧ (∀ (i : Nat) r l, rs[i]? = some r → ls[i]? = some l → Told (fun n => (r.1 ≤ n ∧ n ≤ r.2) ∧ ¬ InS gs n) l) ∧ (∀ l ∈ ls, l ≠ []) ∧
    (rngV rs.length).mergeSort (PySem.W.dataLe false fun x => PyData.int (kI ls x)) = os.map (fun i : Nat => V.int (i : Int)) ∧ (∀ i, i ∈ os ↔ i < rs.length) ∧ grF (Lf ls) os = (ns, ch) ∧ Gr (Lf ls) os ns ch ∧ ap.Perm (ch.map fun i : Nat => (i : Int)) ∧ ap.Pairwise (· ≤ ·)
theorem LeastT.uniq {rs gs : List (Int × Int)} {ns ap ns' ap' : List Int} (h : LeastT rs gs ns ap) (h' : LeastT rs gs ns' ap') : ns = ns' ∧ ap = ap' := by
  obtain ⟨ls, os, ch, h1, h2, h3, h4, h5, h6, h7, h8, h9⟩ := h.ex
  obtain ⟨ls', os', ch', k1, k2, k3, k4, k5, k6, k7, k8, k9⟩ := h'.ex
  have el : ls = ls' := by
    refine List.ext_getElem? fun i => ?_
    by_cases c : i < rs.length
    · have e0 : rs[i]? = some rs[i] := List.getElem?_eq_getElem c
      have e1 : ls[i]? = some (ls[i]'(by omega)) := List.getElem?_eq_getElem _
      have e2 : ls'[i]? = some (ls'[i]'(by omega)) := List.getElem?_eq_getElem _
      rw [e1, e2, Told.one (h2 i _ _ e0 e1) (k2 i _ _ e0 e2) fun _ => Iff.rfl]
    · rw [List.getElem?_eq_none (by omega), List.getElem?_eq_none (by omega)]
  subst el
  rw [h4] at k4
  have eo : os = os' := by
    have hinj : ∀ {a b : List Nat}, a.map (fun i : Nat => V.int (i : Int)) = b.map (fun i : Nat => V.int (i : Int)) → a = b := fun {a b} e => by
      have := congrArg (List.map fun v : V => match v with | .int n => n.toNat | _ => 0) e
      simpa [List.map_map, Function.comp_def] using this
    exact hinj k4
  subst eo
  rw [h6] at k6
  cases k6
  exact ⟨rfl, sorted_one (h8.trans k8.symm) h9 k9⟩
/-- what of it is to be looked at -/
structure SampT (rs gs : List (Int × Int)) (ns ap : List Int) : Prop extends SampOk rs gs ns where
  len : ap.length = ns.length
  ainc : ap.Pairwise (· < ·)
  arng : ∀ p ∈ ap, 0 ≤ p ∧ p < rs.length
  far : ∀ p ∈ ap, ∀ q ∈ ap, p ≠ q → ∀ rp rq, rs[p.toNat]? = some rp → rs[q.toNat]? = some rq → ∀ n, ¬ (((rp.1 ≤ n ∧ n ≤ rp.2) ∧ (rq.1 ≤ n ∧ n ≤ rq.2)) ∧ ¬ InS gs n)
theorem LeastT.samp {rs gs : List (Int × Int)} {ns ap : List Int} (h : LeastT rs gs ns ap) : SampT rs gs ns ap := by
  obtain ⟨ls, os, ch, h1, h2, h3, h4, h5, h6, h7, h8, h9⟩ := h.ex
  have low2 : ∀ i ∈ ch, (Lf ls i).1 ≤ (Lf ls i).2 := fun i hi => by
    obtain ⟨r, l, p, q, e1, e2, f1, f2, f3, f4, f5, f6⟩ := told_Lf h1 h2 h3 ((h5 i).mp (h7.sub i hi))
    rw [f3]
    exact (f6 p.1 f4).2
  have nd : ch.Nodup := by
    refine List.Pairwise.imp_of_mem (fun {a b} ha hb hab z => ?_) h7.chain
    have := low2 a ha
    rw [z] at hab this
    omega
  have inB : ∀ p ∈ ap, ∃ i ∈ ch, p = ((i : Nat) : Int) := fun p hp => by
    obtain ⟨i, hi, e⟩ := List.mem_map.mp (h8.mem_iff.mp hp)
    exact ⟨i, hi, e.symm⟩
  have apart : ∀ i ∈ ch, ∀ j ∈ ch, i ≠ j → (Lf ls i).2 < (Lf ls j).1 ∨ (Lf ls j).2 < (Lf ls i).1 := by
    have hc := h7.chain
    clear h6 h7 h8 h9 low2 nd inB
    induction ch with
    | nil => intro i hi; cases hi
    | cons c cs ih =>
      obtain ⟨a1, a2⟩ := List.pairwise_cons.mp hc
      intro i hi j hj ne
      rcases List.mem_cons.mp hi with y | y <;> rcases List.mem_cons.mp hj with z | z
      · exact absurd (y.trans z.symm) ne
      · rw [y]; exact .inl (a1 j z)
      · rw [z]; exact .inr (a1 i y)
      · exact ih a2 i y j z ne
  refine ⟨samp_of h1 h2 h3 h5 h7, by rw [h8.length_eq, List.length_map, h7.map, List.length_map], ?_, fun p hp => ?_, fun p hp q hq ne rp rq ep eq n hn => ?_⟩
  · have nda : ap.Nodup := h8.nodup_iff.mpr (by
      refine List.pairwise_map.mpr (List.Pairwise.imp (fun h z => h ?_) nd)
      exact Int.ofNat_inj.mp z)
    exact List.Pairwise.imp₂ (fun a b (h1 : a ≤ b) (h2 : a ≠ b) => by omega) h9 nda
  · obtain ⟨i, hi, rfl⟩ := inB p hp
    have := (h5 i).mp (h7.sub i hi)
    omega
  · obtain ⟨i, hi, rfl⟩ := inB p hp
    obtain ⟨j, hj, rfl⟩ := inB q hq
    have nij : i ≠ j := fun z => ne (by rw [z])
    obtain ⟨r, l, p0, q0, e1, e2, f1, f2, f3, f4, f5, f6⟩ := told_Lf h1 h2 h3 ((h5 i).mp (h7.sub i hi))
    obtain ⟨r', l', p1, q1, e1', e2', f1', f2', f3', f4', f5', f6'⟩ := told_Lf h1 h2 h3 ((h5 j).mp (h7.sub j hj))
    rw [show ((i : Nat) : Int).toNat = i by omega, e1] at ep
    rw [show ((j : Nat) : Int).toNat = j by omega, e1'] at eq
    cases ep
    cases eq
    have g1 := f6 n ⟨hn.1.1, hn.2⟩
    have g2 := f6' n ⟨hn.1.2, hn.2⟩
    have g3 := apart i hi j hj nij
    rw [f3, f3'] at g3
    rcases g3 with z | z
    · have z : q0.2 < p1.1 := z
      omega
    · have z : q1.2 < p0.1 := z
      omega

/-! ## generator expressions: a frame of their own, its rules those of any body -/
namespace GX
open PySem PySem.Spec PyProof.Rows L2 GenW
/-- the object at c is a code object with its table at P -/
def CodeG (c P : Addr) : HO := .ext fun h => PySem.W.CodeHd h c P
theorem codeG_ne {c P : Addr} (ps : Array Value) : CodeG c P ≠ .tbl ps := fun z => by
  unfold CodeG at z
  cases z
/-- all but tables stands, tables stay tables -/
structure NoTab (H H2 : Hp) : Prop where
  keep : ∀ b o, H b = some o → (∀ ps, o ≠ .tbl ps) → H2 b = some o
  tab : ∀ b ps, H b = some (.tbl ps) → ∃ qs, H2 b = some (.tbl qs)
theorem NoTab.refl (H : Hp) : NoTab H H := ⟨fun _ _ e _ => e, fun _ ps e => ⟨ps, e⟩⟩
theorem NoTab.trans {H H1 H2 : Hp} (a : NoTab H H1) (b : NoTab H1 H2) : NoTab H H2 := ⟨fun x o e n => b.keep x o (a.keep x o e n) n, fun x ps e => let ⟨qs, e1⟩ := a.tab x ps e; b.tab x qs e1⟩
theorem NoTab.of {H H1 : Hp} (k : ∀ b o, H b = some o → H1 b = some o) : NoTab H H1 := ⟨fun b o e _ => k b o e, fun b ps e => ⟨ps, k _ _ e⟩⟩
theorem NoTab.free {H H1 : Hp} {p : Addr} (n : NoTab H H1) (h : H1 p = none) : H p = none := by
  cases e : H p with
  | none => rfl
  | some o =>
    by_cases ct : ∃ q, o = .tbl q
    · obtain ⟨q, rfl⟩ := ct
      obtain ⟨qs, e1⟩ := n.tab p q e
      rw [h] at e1
      cases e1
    · have e1 := n.keep p o e fun ps z => ct ⟨ps, z⟩
      rw [h] at e1
      cases e1
theorem NoTab.lst {H H1 : Hp} {a : Addr} {xs : List V} (n : NoTab H H1) (e : H a = some (.lst xs)) : H1 a = some (.lst xs) := n.keep _ _ e fun _ z => nomatch z
theorem NoTab.tup {H H1 : Hp} {a : Addr} {xs : List V} (n : NoTab H H1) (e : H a = some (.tup xs)) : H1 a = some (.tup xs) := n.keep _ _ e fun _ z => nomatch z
theorem NoTab.code {H H1 : Hp} {a c P : Addr} (n : NoTab H H1) (e : H a = some (CodeG c P)) : H1 a = some (CodeG c P) := n.keep _ _ e codeG_ne
theorem NoTab.sqL {K : PySem.W.Frag} {H H1 : Hp} {a : Addr} {xs : List V} (n : NoTab H H1) (h : SqL K H a xs) : SqL K H1 a xs :=
  h.elim (fun z => z.elim (fun e => .inl (.inl (n.lst e))) fun ⟨o, e⟩ => .inl (.inr ⟨o, n.keep _ _ e fun _ z => nomatch z⟩)) .inr
theorem NoTab.sqT {K : PySem.W.Frag} {H H1 : Hp} {a : Addr} {xs : List V} (n : NoTab H H1) (h : SqT K H a xs) : SqT K H1 a xs :=
  h.elim (fun z => z.elim (fun e => .inl (.inl (n.tup e))) fun ⟨o, e⟩ => .inl (.inr ⟨o, n.keep _ _ e fun _ z => nomatch z⟩)) .inr
/-- a list that was new may change -/
theorem NoTab.new {H H1 : Hp} {a : Addr} {o : HO} (n : NoTab H H1) (e : H a = none) : NoTab H (L2.upd H1 a o) :=
  ⟨fun b u hb nt => by rw [upd_ne (ne_of_none hb e)]; exact n.keep b u hb nt, fun b ps hb => let ⟨qs, e1⟩ := n.tab b ps hb; ⟨qs, by rw [upd_ne (ne_of_none hb e)]; exact e1⟩⟩
/-- the table at P: each code object that it tells is known, and its own table, which is none of Xs -/
def TabQ (Xs : List Addr) (H : Hp) (P : Addr) : Prop := ∃ ps : Array Value, H P = some (.tbl ps) ∧ TriplesOk ps.toList ∧ ∀ (pos : Pos) (cv : Value), codeAmong pos ps.toList = some cv → ∃ c' P', cv = .ref c' ∧ H c' = some (CodeG c' P') ∧ P' ∉ Xs ∧ GxR.TabG H P'
theorem TabQ.nil {Xs : List Addr} {H : Hp} {P : Addr} (h : H P = some (.tbl #[])) : TabQ Xs H P := ⟨#[], h, True.intro, fun pos cv hc => by
  have z : codeAmong pos [] = some cv := hc
  simp [codeAmong] at z⟩
/-- the tables of the defs that hold generator expressions, those of lambdas with their names -/
structure Mq where
  ms : List Addr
  ls : List (Addr × Str)
instance : Membership Addr Mq := ⟨fun M a => a ∈ M.ms⟩
theorem Mq.mem {M : Mq} {a : Addr} : a ∈ M ↔ a ∈ M.ms := Iff.rfl
/-- the tables at Ms, of the defs that hold generator expressions or lambdas; Xs: all tables of defs -/
structure TQ (Ms : Mq) (Xs : List Addr) (H : Hp) : Prop where
  all : ∀ x ∈ Xs, ∃ ps, H x = some (.tbl ps)
  gx : ∀ m ∈ Ms, TabQ Xs H m ∧ m ∈ Xs
  lam : ∀ l ∈ Ms.ls, l.1 ∈ Xs ∧ l.1 ∉ Ms.ms ∧ LamX.TabS H l.1 l.2
theorem tabS_keep {H H2 : Hp} {P : Addr} {q : Str} (t : LamX.TabS H P q) (k : ∀ ps, H P = some (.tbl ps) → H2 P = some (.tbl ps)) (ko : ∀ b c q, H b = some (LamX.CodeO c q) → H2 b = some (LamX.CodeO c q)) : LamX.TabS H2 P q := by
  obtain ⟨ps, a, b, c⟩ := t
  refine ⟨ps, k _ a, b, fun pos cv hc => ?_⟩
  obtain ⟨c', e1, e2⟩ := c pos cv hc
  exact ⟨c', e1, ko _ _ _ e2⟩
theorem codeO_ne {c : Addr} {q : Str} (ps : Array Value) : LamX.CodeO c q ≠ .tbl ps := fun z => by
  unfold LamX.CodeO at z
  cases z
theorem tabG_same {H H2 : Hp} {P : Addr} (h : GxR.TabG H P) (k : ∀ b o, H b = some o → H2 b = some o) : GxR.TabG H2 P := let ⟨ps, a, b⟩ := h; ⟨ps, k _ _ a, b⟩
theorem TQ.same {Ms : Mq} {Xs : List Addr} {H H2 : Hp} (h : TQ Ms Xs H) (k : ∀ b o, H b = some o → H2 b = some o) : TQ Ms Xs H2 := by
  refine ⟨fun x hx => let ⟨ps, e⟩ := h.all x hx; ⟨ps, k _ _ e⟩, fun m hm => ?_, fun l hl => let ⟨a, b, c⟩ := h.lam l hl; ⟨a, b, c.ext k⟩⟩
  obtain ⟨⟨ps, a, b, c⟩, hx⟩ := h.gx m hm
  refine ⟨⟨ps, k _ _ a, b, fun pos cv hc => ?_⟩, hx⟩
  obtain ⟨c', P', e1, e2, e3, e4⟩ := c pos cv hc
  exact ⟨c', P', e1, k _ _ e2, e3, tabG_same e4 k⟩
/-- all that is no table may change, where no code object does -/
theorem TQ.keep {Ms : Mq} {Xs : List Addr} {H H2 : Hp} (h : TQ Ms Xs H) (k : ∀ b ps, H b = some (.tbl ps) → H2 b = some (.tbl ps)) (kc : ∀ b c P, H b = some (CodeG c P) → H2 b = some (CodeG c P)) (ko : ∀ b c q, H b = some (LamX.CodeO c q) → H2 b = some (LamX.CodeO c q)) : TQ Ms Xs H2 := by
  refine ⟨fun x hx => let ⟨ps, e⟩ := h.all x hx; ⟨ps, k _ _ e⟩, fun m hm => ?_, fun l hl => let ⟨a, b, c⟩ := h.lam l hl; ⟨a, b, tabS_keep c (k _) ko⟩⟩
  obtain ⟨⟨ps, a, b, c⟩, hx⟩ := h.gx m hm
  refine ⟨⟨ps, k _ _ a, b, fun pos cv hc => ?_⟩, hx⟩
  obtain ⟨c', P', e1, e2, e3, q, f1, f2⟩ := c pos cv hc
  exact ⟨c', P', e1, kc _ _ _ e2, e3, q, k _ _ f1, f2⟩
theorem TQ.upd {Ms : Mq} {Xs : List Addr} {H : Hp} {l : Addr} {xs : List V} {o : HO} (h : TQ Ms Xs H) (e : H l = some (.lst xs)) : TQ Ms Xs (L2.upd H l o) :=
  h.keep (fun b ps hb => by rw [upd_ne (ne_of hb e (fun z => nomatch z))]; exact hb) (fun b c P hb => by rw [upd_ne (ne_of hb e (fun z => by unfold CodeG at z; cases z))]; exact hb) (fun b c q hb => by rw [upd_ne (ne_of hb e (fun z => by unfold LamX.CodeO at z; cases z))]; exact hb)
/-- all but the object at P stands -/
def But (P : Addr) (H H2 : Hp) : Prop := ∀ b o, b ≠ P → H b = some o → H2 b = some o
theorem But.noTab {P : Addr} {H H2 : Hp} (h : But P H H2) {q q2 : Array Value} (e : H P = some (.tbl q)) (e2 : H2 P = some (.tbl q2)) : NoTab H H2 :=
  ⟨fun b o hb n => h b o (fun z => n q (by rw [z, e] at hb; exact (Option.some.inj hb).symm)) hb, fun b ps hb => by
    by_cases z : b = P
    · exact ⟨q2, by rw [z]; exact e2⟩
    · exact ⟨ps, h b _ z hb⟩⟩
/-- a table that is none of a def's has grown -/
theorem TQ.but {Ms : Mq} {Xs : List Addr} {H H2 : Hp} {P : Addr} (h : TQ Ms Xs H) (n : P ∉ Xs) (t : GxR.TabG H P) (t2 : GxR.TabG H2 P) (k : But P H H2) : TQ Ms Xs H2 := by
  obtain ⟨q0, hq0, _⟩ := t
  refine ⟨fun x hx => let ⟨ps, e⟩ := h.all x hx; ⟨ps, k _ _ (fun z => n (z ▸ hx)) e⟩, fun m hm => ?_, fun l hl => let ⟨a, b, c⟩ := h.lam l hl; ⟨a, b, tabS_keep c (fun _ => k _ _ (fun z => n (z ▸ a))) fun b c q e => k _ _ (ne_of e hq0 (codeO_ne q0)) e⟩⟩
  obtain ⟨⟨ps, a, b, c⟩, hx⟩ := h.gx m hm
  refine ⟨⟨ps, k _ _ (fun z => n (z ▸ hx)) a, b, fun pos cv hc => ?_⟩, hx⟩
  obtain ⟨c', P', e1, e2, e3, e4⟩ := c pos cv hc
  refine ⟨c', P', e1, k _ _ (ne_of e2 hq0 (codeG_ne q0)) e2, e3, ?_⟩
  by_cases e : P' = P
  · rw [e]; exact t2
  · obtain ⟨q, h1, h2⟩ := e4
    exact ⟨q, k _ _ e h1, h2⟩
/-- a lambda's own table has grown -/
theorem TQ.lamS {Ms : Mq} {Xs : List Addr} {H H2 : Hp} {P : Addr} {q : Str} (h : TQ Ms Xs H) (hl : (P, q) ∈ Ms.ls) (hu : ∀ l ∈ Ms.ls, l.1 = P → l.2 = q) (t2 : LamX.TabS H2 P q) (k : But P H H2) : TQ Ms Xs H2 := by
  obtain ⟨hX, hM, q0, hq0, _⟩ := h.lam _ hl
  obtain ⟨q2, hq2, _⟩ := id t2
  refine ⟨fun x hx => ?_, fun m hm => ?_, fun l hl' => ?_⟩
  · by_cases e : x = P
    · exact ⟨q2, by rw [e]; exact hq2⟩
    · obtain ⟨ps, e0⟩ := h.all x hx
      exact ⟨ps, k _ _ e e0⟩
  · obtain ⟨⟨ps, a, b, c⟩, hx⟩ := h.gx m hm
    refine ⟨⟨ps, k _ _ (fun z => hM (z ▸ hm)) a, b, fun pos cv hc => ?_⟩, hx⟩
    obtain ⟨c', P', e1, e2, e3, q, h1, h2⟩ := c pos cv hc
    exact ⟨c', P', e1, k _ _ (ne_of e2 hq0 (codeG_ne q0)) e2, e3, q, k _ _ (fun z => e3 (z ▸ hX)) h1, h2⟩
  · obtain ⟨a, b, c⟩ := h.lam l hl'
    refine ⟨a, b, ?_⟩
    by_cases e : l.1 = P
    · rw [e, hu l hl' e]
      exact t2
    · exact tabS_keep c (fun _ => k _ _ e) fun b c q e => k _ _ (ne_of e hq0 (codeO_ne q0)) e
section
variable {X : Cx} {pins : List (Addr × Obj)} {σ : L2.St} {H : Hp} {s : Shared}
theorem codeHd_stay {c P : Addr} {h1 h2 : Heap} (x : PySem.W.CodeHd h1 c P) (k : ∀ o, h1.get? c = some o → h2.get? c = some o) : PySem.W.CodeHd h2 c P :=
  let ⟨o, vs, file, tf, flags, tg, inF, text, tt, e, r⟩ := x; ⟨o, vs, file, tf, flags, tg, inF, text, tt, k _ e, r⟩
/-- the table's object is written, the code object at c and its table at P2 are new -/
theorem inv_code {P c P2 : Addr} {ps more : Array Value} {h' : Heap} {t' : Nat} (I : Inv X pins σ H s) (hP : H P = some (.tbl ps)) (k : ∀ b o, b ≠ P → s.heap.get? b = some o → h'.get? b = some o)
    (hm : h'.get? P = some { cls := .none, data := .fields (ps ++ more) }) (hc : s.heap.objs.size ≤ c) (hp2 : s.heap.objs.size ≤ P2) (ncp : c ≠ P2) (ho : PySem.W.CodeHd h' c P2) (hq : h'.get? P2 = some { cls := .none, data := .fields #[] }) :
    Inv X pins σ (upd (upd (upd H P (.tbl (ps ++ more))) c (CodeG c P2)) P2 (.tbl #[])) { s with heap := h', toks := t' } := by
  have nC : H c = none := I.hok.fresh hc
  have nQ : H P2 = none := I.hok.fresh hp2
  have nPc : P ≠ c := ne_of_none hP nC
  have nPq : P ≠ P2 := ne_of_none hP nQ
  have at_ : ∀ b, b ≠ P → b ≠ c → b ≠ P2 → upd (upd (upd H P (.tbl (ps ++ more))) c (CodeG c P2)) P2 (.tbl #[]) b = H b := fun b h1 h2 h3 => by rw [upd_ne h3, upd_ne h2, upd_ne h1]
  have atP : upd (upd (upd H P (.tbl (ps ++ more))) c (CodeG c P2)) P2 (.tbl #[]) P = some (.tbl (ps ++ more)) := by rw [upd_ne nPq, upd_ne nPc, upd_same]
  have nP : ∀ b u, H b = some u → (∀ q, u ≠ .tbl q) → b ≠ P := fun b u e q z => by
    rw [z, hP] at e
    exact q ps (Option.some.inj e).symm
  have nN : ∀ b, H b = none → b ≠ P := fun b e z => by
    rw [z, hP] at e
    cases e
  have lt' : ∀ b o, s.heap.get? b = some o → b ≠ c ∧ b ≠ P2 := fun b o e => ⟨fun z => by
    rw [z] at e
    exact Nat.lt_irrefl _ (Nat.lt_of_lt_of_le (Heap.lt_size e) hc), fun z => by
    rw [z] at e
    exact Nat.lt_irrefl _ (Nat.lt_of_lt_of_le (Heap.lt_size e) hp2)⟩
  have sm : ∀ b u, H b = some u → b ≠ c ∧ b ≠ P2 := fun b u e => ⟨ne_of_none e nC, ne_of_none e nQ⟩
  refine I.step (g' := s.gens) (d' := s.drawn) (ch := []) (fun b hb => absurd hb (by simp)) (fun b o _ _ _ e n => k b o (nN b n) e) (fun b o _ _ _ e n => ⟨o.slots, k b o (nN b n) e⟩)
    (fun b o _ e n => by rw [at_ b (nN b n) (lt' b o e).1 (lt' b o e).2]; exact n) (fun b o _ e => ?_) (fun b xs e => by rw [at_ b (nP b _ e (fun q z => by cases z)) (sm b _ e).1 (sm b _ e).2]; exact e) (fun b o u e => by rw [at_ b (nP b _ e (fun q z => by cases z)) (sm b _ e).1 (sm b _ e).2]; exact e) (fun b qs e => ?_) (fun m hn => ?_) (fun b u e => ?_) I.bare
  · by_cases hb : b = P
    · rw [hb]
      exact ⟨_, hm⟩
    · exact ⟨o, k b o hb e⟩
  · by_cases hb : b = P
    · rw [hb, hP] at e
      cases e
      rw [hb, atP]
      exact ⟨more, rfl⟩
    · rw [at_ b hb (sm b _ e).1 (sm b _ e).2, e]
      exact ⟨#[], by simp⟩
  · obtain ⟨ob, es, ep, ho, r⟩ := hn
    exact ⟨ob, es, ep, k _ ob (nN _ I.free) ho, r⟩
  · by_cases hb2 : b = P2
    · rw [hb2, upd_same] at e
      cases e
      rw [hb2]
      exact hq
    · by_cases hb : b = c
      · rw [hb, upd_ne ncp, upd_same] at e
        cases e
        rw [hb]
        refine ⟨ho, ?_, fun h1 h2 a st => codeHd_stay a st⟩
        obtain ⟨o, _, _, _, _, _, _, _, _, e, _⟩ := ho
        exact ⟨o, e⟩
      · by_cases hbP : b = P
        · rw [hbP, atP] at e
          cases e
          rw [hbP]
          exact hm
        · rw [at_ b hbP hb hb2] at e
          refine (I.hok b u e).stay (fun d v hd q => k d v ?_ q) (fun d q => by rw [at_ d (nP d _ q (fun q z => by cases z)) (sm d _ q).1 (sm d _ q).2]; exact q) fun d xs q => by rw [at_ d (nP d _ q (fun q z => by cases z)) (sm d _ q).1 (sm d _ q).2]; exact q
          rcases hd with z | z
          · rw [z]
            exact hbP
          · exact nP d _ z (fun q z => by cases z)
end
/-- the making of a generator expression's code object, as it is read -/
abbrev TC := L2.St → Hp → (Value → Hp → Prop) → Prop
structure PC (X : Cx) (gpos : Pos) (scope : Scope) (tc : TC) : Prop where
  run : ∀ (pins : List (Addr × Obj)) (s : Shared) (σ : L2.St) (H : Hp) (Q : Value → Hp → Prop) (E : Value → Shared → Prop), Inv X pins σ H s → tc σ H Q →
    wpAny (model X.prog X.w) X.A (genexprCode X.env gpos (X.env.qual ++ "<genexpr>") scope) (fun code s' => ∃ H', Inv X pins σ H' s' ∧ s.heap.objs.size ≤ s'.heap.objs.size ∧ Q code H') E s
/-- of a def's own code object -/
def tCo (Ms : Mq) (Xs : List Addr) (P : Addr) : TC := fun _ H Q => TQ Ms Xs H ∧ P ∈ Ms ∧ ∀ (H2 : Hp) (c' P' : Addr), NoTab H H2 → TQ Ms Xs H2 → P' ∉ Xs → H2 c' = some (CodeG c' P') → GxR.TabG H2 P' → Q (.ref c') H2
theorem pc_own {X : Cx} {Ms : Mq} {Xs : List Addr} {c P : Addr} {gpos : Pos} {scope : Scope} (TB : GxR.TabB X.base X.mg c P) (hcode : X.env.code = .ref c) : PC X gpos scope (tCo Ms Xs P) := by
  refine ⟨fun pins s σ H Q E I h => ?_⟩
  obtain ⟨tq, hPm, q⟩ := h
  obtain ⟨⟨ps, hP, ok, kn⟩, hPx⟩ := tq.gx P hPm
  have hP' : s.heap.get? P = some { cls := .none, data := .fields ps } := I.hok P _ hP
  have C := TB.code.keeps I.bk
  cases found : codeAmong gpos ps.toList with
  | some old =>
    obtain ⟨c', P', rfl, e2, e3, e4⟩ := kn gpos _ found
    exact wpAny_genexprCode_hit hcode (C.code hP' ok) found ⟨H, I, Nat.le_refl _, q H c' P' (NoTab.refl _) tq e3 e2 e4⟩
  | none =>
    refine wpAny_genexprCodeX hcode (C.code hP' ok) (C.tab hP') found fun c' h' tk ext le lt isC _ tab ⟨P', le2, isC2, tab2⟩ => ?_
    obtain ⟨_, _, _, _, _, _, _, _, _, _, _, _, _, _, _, _, _, _, _, okT, _⟩ := isC
    have hd2 := PySem.W.CodeHd.of isC2 tab2
    have ncp : c' ≠ P' := by
      obtain ⟨_, _, _, _, _, _, _, _, _, _, _, _, _, _, _, _, _, _, hne⟩ := hd2
      exact hne
    have J := inv_code (t' := tk) I hP (fun b o hb e => ext b o hb e) tab.2 le le2 ncp hd2 tab2.2
    have nC : H c' = none := I.hok.fresh le
    have nQ : H P' = none := I.hok.fresh le2
    have nPc : P ≠ c' := ne_of_none hP nC
    have nPq : P ≠ P' := ne_of_none hP nQ
    have nX : P' ∉ Xs := fun z => by
      obtain ⟨ps0, e⟩ := tq.all P' z
      rw [nQ] at e
      cases e
    have eL : (ps ++ #[rawInt gpos.line, rawInt gpos.col, .ref c']).toList = ps.toList ++ [rawInt gpos.line, rawInt gpos.col, .ref c'] := by simp
    have kp : But P H (upd (upd (upd H P (.tbl (ps ++ #[rawInt gpos.line, rawInt gpos.col, .ref c']))) c' (CodeG c' P')) P' (.tbl #[])) := fun b o hb e => by
      rw [upd_ne (ne_of_none e nQ), upd_ne (ne_of_none e nC), upd_ne hb]
      exact e
    have eC : upd (upd (upd H P (.tbl (ps ++ #[rawInt gpos.line, rawInt gpos.col, .ref c']))) c' (CodeG c' P')) P' (.tbl #[]) c' = some (CodeG c' P') := by rw [upd_ne ncp, upd_same]
    have tG : GxR.TabG (upd (upd (upd H P (.tbl (ps ++ #[rawInt gpos.line, rawInt gpos.col, .ref c']))) c' (CodeG c' P')) P' (.tbl #[])) P' := ⟨#[], upd_same, True.intro⟩
    have eP : upd (upd (upd H P (.tbl (ps ++ #[rawInt gpos.line, rawInt gpos.col, .ref c']))) c' (CodeG c' P')) P' (.tbl #[]) P = some (.tbl (ps ++ #[rawInt gpos.line, rawInt gpos.col, .ref c'])) := by rw [upd_ne nPq, upd_ne nPc, upd_same]
    have sub : ∀ c0 P0, H c0 = some (CodeG c0 P0) → P0 ∉ Xs → GxR.TabG H P0 → GxR.TabG (upd (upd (upd H P (.tbl (ps ++ #[rawInt gpos.line, rawInt gpos.col, .ref c']))) c' (CodeG c' P')) P' (.tbl #[])) P0 := fun c0 P0 _ e3 ⟨q0, f1, f2⟩ => ⟨q0, kp _ _ (fun z => e3 (z ▸ hPx)) f1, f2⟩
    refine ⟨_, J, Nat.le_trans le (Nat.le_of_lt lt), q _ c' P' (kp.noTab hP eP) ⟨fun x hx => ?_, fun m hm => ?_, fun l hl => let ⟨a, b, c⟩ := tq.lam l hl; ⟨a, b, tabS_keep c (fun _ => kp _ _ (fun z => b (by rw [z]; exact hPm))) fun b c q e => kp _ _ (ne_of e hP (codeO_ne ps)) e⟩⟩ nX eC tG⟩
    · by_cases e : x = P
      · exact ⟨_, by rw [e]; exact eP⟩
      · obtain ⟨ps0, e0⟩ := tq.all x hx
        exact ⟨ps0, kp _ _ e e0⟩
    · by_cases e : m = P
      · subst e
        refine ⟨⟨_, eP, okT, fun pos cv hcv => ?_⟩, hPx⟩
        rw [eL] at hcv
        rcases LamX.among_app _ ok hcv with z | z
        · obtain ⟨c0, P0, e1, e2, e3, e4⟩ := kn pos cv z
          exact ⟨c0, P0, e1, kp _ _ (ne_of e2 hP (codeG_ne ps)) e2, e3, sub c0 P0 e2 e3 e4⟩
        · exact ⟨c', P', z, eC, nX, tG⟩
      · obtain ⟨⟨ps0, a, b, c⟩, hx⟩ := tq.gx m hm
        refine ⟨⟨ps0, kp _ _ e a, b, fun pos cv hc => ?_⟩, hx⟩
        obtain ⟨c0, P0, e1, e2, e3, e4⟩ := c pos cv hc
        exact ⟨c0, P0, e1, kp _ _ (ne_of e2 hP (codeG_ne ps)) e2, e3, sub c0 P0 e2 e3 e4⟩
/-- of the code object of the generator expression around -/
def tCj (Ms : Mq) (Xs : List Addr) (code : Value) : TC := fun _ H Q => ∃ c P, code = .ref c ∧ H c = some (CodeG c P) ∧ P ∉ Xs ∧ GxR.TabG H P ∧ TQ Ms Xs H ∧ ∀ (H2 : Hp) (code' : Value), NoTab H H2 → TQ Ms Xs H2 → GxR.TabG H2 P → Q code' H2
theorem pc_in {X : Cx} {Ms : Mq} {Xs : List Addr} {code : Value} {gpos : Pos} {scope : Scope} (hcode : X.env.code = code) : PC X gpos scope (tCj Ms Xs code) := by
  refine ⟨fun pins s σ H Q E I h => ?_⟩
  obtain ⟨c, P, ec, hC, nX, ⟨ps, hP, ok⟩, tq, q⟩ := h
  rw [ec] at hcode
  have hP' : s.heap.get? P = some { cls := .none, data := .fields ps } := I.hok P _ hP
  have C : PySem.W.CodeHd s.heap c P := (I.hok c _ hC).1
  cases found : codeAmong gpos ps.toList with
  | some old => exact wpAny_genexprCode_hit hcode (C.code hP' ok) found ⟨H, I, Nat.le_refl _, q H _ (NoTab.refl _) tq ⟨ps, hP, ok⟩⟩
  | none =>
    refine wpAny_genexprCodeX hcode (C.code hP' ok) (C.tab hP') found fun c' h' tk ext le lt isC _ tab _ => ?_
    obtain ⟨_, _, _, _, _, _, _, _, _, _, _, _, _, _, _, _, _, _, _, okT, _⟩ := isC
    have J := GxR.inv_tab (more := #[rawInt gpos.line, rawInt gpos.col, .ref c']) (g' := s.gens) (d' := s.drawn) (t' := tk) I hP (fun b o hb e => ext b o hb e) tab.2 I.bare
    have kp : But P H (upd H P (.tbl (ps ++ #[rawInt gpos.line, rawInt gpos.col, .ref c']))) := fun b o hb e => by rw [upd_ne hb]; exact e
    have t2 : GxR.TabG (upd H P (.tbl (ps ++ #[rawInt gpos.line, rawInt gpos.col, .ref c']))) P := ⟨_, upd_same, okT⟩
    exact ⟨_, J, Nat.le_trans le (Nat.le_of_lt lt), q _ _ (kp.noTab hP upd_same) (tq.but nX ⟨ps, hP, ok⟩ t2 kp) t2⟩
end GX

namespace GX
open PySem PySem.Spec PyProof.Rows L2 GenW
/-- the context of a generator expression's frame, which runs in the around B -/
abbrev gcx (X : Cx) (B : Around) (s : Shared) (H : Hp) (scope : Scope) (genv : Env) (fp : List Addr) : Cx :=
  { X with A := B, s_0 := s, H_0 := H, env := genv, outer := X.stack, stack := genv :: X.stack, ex := fp, fn := fun x => scope.names.lookup x == some .cell, calm := true, pn := [], xe := fun _ _ => False }
/-- the names of a generator expression: its own (with their places in N), or captured -/
structure GOk (N : List Str) (sc scope : Scope) (own : List (Str × Nat)) : Prop where
  blk : BlkOk N sc scope own
  dot : scope.names.lookup (".0" : Str) = some .local
  co : scope.isCoroutine = false
def gokB (N : List Str) (sc scope : Scope) (own : List (Str × Nat)) : Bool := blkC N sc scope own && decide (scope.names.lookup (".0" : Str) = some .local) && !scope.isCoroutine
theorem gok_by {N : List Str} {sc scope : Scope} {own : List (Str × Nat)} (h : gokB N sc scope own = true) : GOk N sc scope own := by
  unfold gokB at h
  simp only [Bool.and_eq_true, Bool.not_eq_true', decide_eq_true_eq] at h
  exact ⟨blkOk_by h.1.1, h.1.2, h.2⟩
abbrev frameH (h : Heap) (names : List (Str × NameKind)) : Heap := pushCells (h.push { cls := .type "frame", data := .dict #[] }) names
theorem newGenEnv {M : Model} {A : Around} {E : Value → Shared → Prop} {s : Shared} {scope : Scope} {globals : Addr} {cl : List (Str × Addr)} {qual : Str} {code it : Value} {bi : Addr} {Q : Env → Shared → Prop} (hk : scope.kind = .function) (h0 : scope.names.lookup (".0" : Str) = some .local)
    (h : ∀ h', h'.Ns s.heap.objs.size (fun y => if y = (".0" : Str) then some it else none) → Heap.SameBut s.heap.objs.size (frameH s.heap scope.names) h' →
      Q { scope, locals := s.heap.objs.size, globals, cells := cellsFrom (s.heap.objs.size + 1) scope.names cl, qual, func := none, code, frame := some s.heap.objs.size, builtins := bi } { s with heap := h', toks := s.toks + 1 }) :
    wpAny M A (newFunctionEnv scope globals cl [(".0", it)] qual none code none bi) Q E s := by
  simp only [newFunctionEnv, Option.isSome_none, Bool.false_eq_true, if_false]
  refine wpAny_bind (wpAny_alloc ?_)
  refine wpAny_bind (wpAny_layCells _ (fun name kind cells => by cases hkc : kind == NameKind.cell <;> simp [hkc]) _ _ _ _ ?_)
  rw [show ({ s with heap := s.heap.push { cls := .type "frame", data := .dict #[] } } : Shared).heap.objs.size = s.heap.objs.size + 1 from Heap.size_push ..]
  rw [List.forIn_cons]
  refine wpAny_bind (wpAny_bind (wpAny_bind (wpAny_storeName_local (m := fun _ => none) h0 ((Heap.Ns.new s.heap (.type "frame")).keeps (pushCells_keeps _ _)) (fun h' hn' hs' => ?_) (by
    show (scope.kind == .class || (scope.kind == .module && _)) = false
    rw [hk]; rfl))))
  refine wpAny_pure ?_
  dsimp only
  rw [List.forIn_nil]
  exact wpAny_pure (wpAny_pure (h h' hn' hs'))
abbrev gEnv (X : Cx) (scope : Scope) (s : Shared) (code : Value) : Env := genEnv scope (cellsFrom (s.heap.objs.size + 1) scope.names (cloFrom X.env.cells scope.names [])) s.heap.objs.size code builtinsNs X.env
section
variable {X : Cx} {pins : List (Addr × Obj)} {σ : L2.St} {H : Hp} {s : Shared}
/-- what the around of the frame is to be -/
structure BOk (X : Cx) (B : Around) (genv : Env) : Prop where
  hd : B.handled = none
  fr : B.frames = some (genv :: X.stack)
theorem gx_start {B : Around} {scope : Scope} {own : List (Str × Nat)} {fp : List Addr} {code it : Value} {h' : Heap} {t' : Nat} (I : Inv X pins σ H s) (ok : GOk X.N X.env.scope scope own) (hN : X.N.Nodup) (hfp : ∀ b ∈ fp, FpOk X pins H b ∧ b < s.heap.objs.size)
    (hB : BOk X B (gEnv X scope s code)) (hn' : h'.Ns s.heap.objs.size (fun y => if y = (".0" : Str) then some it else none)) (hs' : Heap.SameBut s.heap.objs.size (frameH s.heap scope.names) h') :
    Inv (gcx X B s H scope (gEnv X scope s code) fp) [] (wipe σ (own.map (·.2))) H { s with heap := h', toks := t' } := by
  obtain ⟨ok, hdot, hco⟩ := ok
  have hfree : ∀ y ∈ scope.names, y.2 = .free → ∃ c, X.env.cells.lookup y.1 = some c := fun y hy e => by
    rcases ok.free y hy e with k | k
    · exact I.ok.has _ (.inl k)
    · exact I.ok.has _ (.inr k)
  generalize hcenv : gEnv X scope s code = cenv at hB ⊢
  have kp0 : ∀ b o, s.heap.get? b = some o → (frameH s.heap scope.names).get? b = some o := fun b o e => pushCells_keeps _ _ _ _ (Heap.get?_push_of_some _ e)
  have kp : ∀ b o, s.heap.get? b = some o → h'.get? b = some o := fun b o e => hs'.extBut b o (Nat.ne_of_lt (Heap.lt_size e)) (kp0 b o e)
  have hL : cenv.locals = s.heap.objs.size := by rw [← hcenv]; rfl
  have hcl : cenv.cells = cellsFrom (s.heap.objs.size + 1) scope.names (cloFrom X.env.cells scope.names []) := by rw [← hcenv]; rfl
  have hsc : cenv.scope = scope := by rw [← hcenv]; rfl
  rw [← Heap.size_push s.heap { cls := .type "frame", data := .dict #[] }] at hcl
  have cm : ∀ {y c}, (y, c) ∈ cloFrom X.env.cells scope.names [] → X.env.cells.lookup y = some c ∧ c < s.heap.objs.size := fun {y c} hm => by
    rcases cloFrom_mem hm with hm | ⟨h1, rfl⟩
    · cases hm
    · obtain ⟨c, hc⟩ := hfree _ h1 rfl
      rw [hc]
      obtain ⟨w, z⟩ := I.cell _ _ hc
      exact ⟨rfl, z.lt⟩
  have mem : ∀ {y c}, cenv.cells.lookup y = some c → (X.env.cells.lookup y = some c ∧ c < s.heap.objs.size) ∨ (s.heap.objs.size + 1 ≤ c ∧ CellAt h' c none) := fun {y c} e => by
    rw [hcl] at e
    rcases cells_mem (PySem.mem_of_lookup e) with hm | ⟨_, h2, h3⟩
    · exact .inl (cm hm)
    · rw [Heap.size_push] at h2
      exact .inr ⟨h2, h3.sameBut hs' (Nat.ne_of_gt h2)⟩
  have look : ∀ {y}, scope.names.lookup y = some .free → ∃ c, cenv.cells.lookup y = some c ∧ X.env.cells.lookup y = some c := fun {y} hl => by
    have hy : (y, NameKind.free) ∈ scope.names := PySem.mem_of_lookup hl
    obtain ⟨c', e'⟩ := mem_lookup (cells_acc (names := scope.names) (n := (s.heap.push { cls := .type "frame", data := .dict #[] }).objs.size) (cloFrom_has (cells := X.env.cells) (acc := []) hy))
    rw [← hcl] at e'
    refine ⟨c', e', ?_⟩
    rw [hcl] at e'
    rcases cells_mem (PySem.mem_of_lookup e') with hm | ⟨h1, _, _⟩
    · exact (cm hm).1
    · have := ok.uniq _ h1
      rw [hl] at this; cases this
  have okB : (gcx X B s H scope cenv fp).Ok := by
    refine ⟨I.ok.mod, by show cenv.scope.kind = _; rw [hsc]; exact ok.kind, by show cenv.globals = _; rw [← hcenv]; exact I.ok.glob, by show cenv.builtins = _; rw [← hcenv]; rfl, by show s.heap.objs.size ≤ cenv.locals; rw [hL]; exact Nat.le_refl _,
      fun y z c e1 e2 => ?_, fun y hy => ?_, fun y c z e => ?_, fun _ => hB.hd, hB.fr, .inr ⟨rfl, by show cenv.frame = _; rw [← hcenv]; rfl⟩, fun b hb => ⟨?_, fun y c e z => ?_⟩, I.bs, Nat.le_trans I.ok.bsz I.sz, fun b o e hb => ?_, fun b hb z => ?_, I.stack, I.stkFree⟩
    · have e1 : cenv.cells.lookup y = some c := e1
      have e2 : cenv.cells.lookup z = some c := e2
      rw [hcl] at e1 e2
      refine cells_inj (fun p hp => ?_) (fun y z c a b => I.ok.inj y z c (cm a).1 (cm b).1) (PySem.mem_of_lookup e1) (PySem.mem_of_lookup e2)
      rw [Heap.size_push]
      exact Nat.lt_succ_of_lt (cm (y := p.1) (c := p.2) hp).2
    · show ∃ c, cenv.cells.lookup y = some c
      have key : ∀ k, cenv.kindOf y = some k → (k = .cell ∨ k = .free) → ∃ c, cenv.cells.lookup y = some c := fun k hk hk' => by
        have hk : scope.names.lookup y = some k := by
          unfold Env.kindOf at hk
          rw [hsc] at hk
          exact hk
        rcases hk' with rfl | rfl
        · obtain ⟨c, hm⟩ := cells_has (n := (s.heap.push { cls := .type "frame", data := .dict #[] }).objs.size) (acc := cloFrom X.env.cells scope.names []) (PySem.mem_of_lookup hk)
          obtain ⟨c', e'⟩ := mem_lookup hm
          exact ⟨c', by rw [hcl]; exact e'⟩
        · obtain ⟨c, h1, _⟩ := look hk
          exact ⟨c, h1⟩
      rcases hy with hy | hy
      · exact key _ hy (.inl rfl)
      · exact key _ hy (.inr rfl)
    · have z : (scope.names.lookup y == some NameKind.cell) = true := z
      have z : scope.names.lookup y = some .cell := by simpa using z
      have e : cenv.cells.lookup y = some c := e
      rw [hcl] at e
      rcases cells_mem (PySem.mem_of_lookup e) with hm | ⟨_, h2, _⟩
      · rcases cloFrom_mem hm with hm | ⟨h1, _⟩
        · cases hm
        · have q := ok.uniq _ h1
          rw [z] at q; cases q
      · rw [Heap.size_push] at h2
        exact Nat.le_of_succ_le h2
    · show b ≠ cenv.locals
      rw [hL]; exact Nat.ne_of_lt (hfp b hb).2
    · have e : cenv.cells.lookup y = some c := e
      rcases mem e with ⟨h1, _⟩ | ⟨h1, _⟩
      · exact (hfp b hb).1.2.2.2.2.1 y c h1 z
      · have h2 : s.heap.objs.size + 1 ≤ b := by rw [← z]; exact h1
        exact absurd (Nat.lt_of_lt_of_le (hfp b hb).2 (Nat.le_of_succ_le h2)) (Nat.lt_irrefl _)
    · rcases (hfp b hb).1.2.2.2.1 with z | z
      · exact I.ok.noex b o e z
      · exact absurd (Nat.lt_of_lt_of_le (Heap.lt_size e) (Nat.le_trans I.ok.bsz z)) (Nat.lt_irrefl _)
    · rcases List.mem_cons.mp (I.stkSub b z) with z | z
      · exact (hfp b hb).1.2.1 z
      · exact (hfp b hb).1.2.2.1 z
  refine ⟨okB, rfl, I.bare, Un.kept kp, ⟨fun y => if y = (".0" : Str) then some it else none, ?_, fun i y av e1 e2 e3 => ?_⟩, fun y c e => ?_, ?_, fun y c e => ?_, fun p hp => ?_, I.hok.kept kp, by rw [wipe_length]; exact I.len⟩
  · show Heap.Ns _ cenv.locals _
    rw [hL]
    exact hn'
  · obtain ⟨e2, hne⟩ := wipe_some e2
    have hfr : scope.names.lookup y = some .free := by
      have e3 : Vis cenv.scope y := e3
      rw [hsc] at e3
      have no : ∀ k, scope.names.lookup y = some k → ¬ (k = .local ∨ k = .cell) := fun k e hh => by
        rcases ok.own _ (PySem.mem_of_lookup e) hh with e' | e'
        · obtain ⟨p, hp, hpy⟩ := List.mem_map.mp e'
          have e3 := ok.ix p hp
          have : p.1 = y := hpy
          rw [this] at e3
          exact hne (List.mem_map.mpr ⟨p, hp, nodup_ix hN e3 e1⟩)
        · exact e' (List.mem_of_getElem? e1)
      rcases e3 with e3 | e3 | e3
      · exact absurd (.inl rfl) (no _ e3)
      · exact absurd (.inr rfl) (no _ e3)
      · exact e3
    have hkf : cenv.kindOf y = some .free := by
      unfold Env.kindOf
      rw [hsc]
      exact hfr
    obtain ⟨m, hn, hl⟩ := I.loc
    have hvis : Vis X.env.scope y := (ok.free _ (PySem.mem_of_lookup hfr) rfl).elim (fun k => .inr (.inl k)) (fun k => .inr (.inr k))
    obtain ⟨w, r, q⟩ := hl i y av e1 e2 hvis
    refine ⟨w, r, .inr ⟨.inr hkf, ?_⟩⟩
    obtain ⟨c, h1, h2⟩ := look hfr
    rcases q with ⟨k, _⟩ | ⟨_, c', e', z⟩
    · have k : X.env.scope.names.lookup y = some .local := k
      rcases ok.free _ (PySem.mem_of_lookup hfr) rfl with k' | k' <;> rw [show X.env.scope.names.lookup y = _ from k'] at k <;> cases k
    · rw [h2] at e'; cases e'
      exact ⟨c, h1, z.keeps kp⟩
  · have e : cenv.cells.lookup y = some c := e
    rcases mem e with ⟨h1, _⟩ | ⟨_, z⟩
    · obtain ⟨w, z⟩ := I.cell y c h1
      exact ⟨w, z.keeps kp⟩
    · exact ⟨_, z⟩
  · show H cenv.locals = none
    rw [hL]; exact I.hok.fresh (Nat.le_refl _)
  · have e : cenv.cells.lookup y = some c := e
    rcases mem e with ⟨h1, _⟩ | ⟨h1, _⟩
    · exact I.freeC y c h1
    · exact I.hok.fresh (Nat.le_of_succ_le h1)
  · exact absurd (show p ∈ ([] : List (Addr × Obj)) ++ [] from hp) (by simp)
/-- the table of generators and the heap have grown -/
theorem inv_gens {g' : Array GenState} {t' : Nat} {d' : Drawn} {h' : Heap} (I : Inv X pins σ H s) (k : ∀ b o, s.heap.get? b = some o → h'.get? b = some o) (hg : AllBare g') : Inv X pins σ H { s with heap := h', gens := g', drawn := d', toks := t' } :=
  I.step (ch := []) (fun b hb => absurd hb (by simp)) (fun b o _ _ _ e _ => k b o e) (fun b o _ _ _ e _ => ⟨o.slots, k b o e⟩) (fun _ _ _ _ n => n) (fun b o _ e => ⟨o, k b o e⟩) (fun _ _ e => e) (fun _ _ _ e => e) (fun b ps e => ⟨#[], by rw [e]; simp⟩)
    (fun m hn => hn.keeps k) (I.hok.kept k) hg
theorem over_gen {A : Around} {elt tg iter : Expr} {ifs : List Expr} {scope : Scope} {pos : Pos} {it acc : Value} {env : Env} : A.over (.compLoop (.GeneratorExp elt [⟨tg, iter, ifs, 0⟩] scope pos) 0 it acc env) [] = A.deeper env := by
  first
    | rfl
    | (obtain ⟨hd, d, fr, gs, u⟩ := A; simp [Around.over, Around.deeper, marksOver, frameCount, unitsOf, envsOf, guardsOf, pushEnvs, pushGuards, Code.envs, Code.env?, Code.isFrame, Code.guards, Code.isGuard, Code.weight, Code.frames, Code.isCreation, Code.isCaller, Code.cUnits])
theorem over_gen0 {A : Around} {elt tg iter : Expr} {ifs : List Expr} {scope : Scope} {pos : Pos} {it acc : Value} {env : Env} : A.over (.compStart (.GeneratorExp elt [⟨tg, iter, ifs, 0⟩] scope pos) 0 it acc env) [] = A.deeper env := by
  first
    | rfl
    | (obtain ⟨hd, d, fr, gs, u⟩ := A; simp [Around.over, Around.deeper, marksOver, frameCount, unitsOf, envsOf, guardsOf, pushEnvs, pushGuards, Code.envs, Code.env?, Code.isFrame, Code.guards, Code.isGuard, Code.weight, Code.frames, Code.isCreation, Code.isCaller, Code.cUnits])
end
end GX

namespace GX
open PySem PySem.Spec PyProof.Rows L2 GenW
/-- what a consumer of the items does with one: N is what is wanted where it goes on -/
abbrev Stps (α : Type) := α → V → Hp → (α → Hp → Prop) → Prop
/-- while the generator sleeps: the objects at Ss may be others, all else is kept -/
structure Slp (Ss : List Addr) (s s' : Shared) : Prop where
  os : s'.os = s.os
  bare : AllBare s'.gens
  keep : ∀ b o, b ∉ Ss → s.heap.get? b = some o → s'.heap.get? b = some o
  own : ∀ b ∈ Ss, ∃ o, s'.heap.get? b = some o ∧ ∀ v, o.data ≠ .cell v
/-- the consumer's objects are none of the generator's -/
structure SsOk (Xg : Cx) (gp : Addr × Obj) (fp Ss : List Addr) : Prop where
  all : ∀ b ∈ Ss, Xg.s_0.heap.objs.size ≤ b ∧ b ≠ Xg.env.locals ∧ (∀ x c, Xg.env.cells.lookup x = some c → c ≠ b) ∧ b ∉ fp ∧ b ≠ gp.1
  pn : Xg.pn = []
/-- the generator's state at turn i -/
def GSt (Xg : Cx) (gp : Addr × Obj) (fp : List Addr) (tn : Nat → Heap → Prop) (Ss : List Addr) (σ0 : L2.St) (i : Nat) (H : Hp) (s : Shared) : Prop :=
  ∃ cp : List (Addr × Obj), cp.map (·.1) = Ss ∧ Inv Xg (gp :: cp) σ0 H s ∧ tn i s.heap ∧ ∀ b ∈ fp, H b = none
section
variable {Xg : Cx} {gp : Addr × Obj} {fp : List Addr} {tn : Nat → Heap → Prop} {Ss : List Addr} {σ0 : L2.St} {i : Nat} {H : Hp} {s s' : Shared}
theorem pins_exist : ∀ (Ss : List Addr) (h : Heap), (∀ b ∈ Ss, ∃ o, h.get? b = some o ∧ ∀ v, o.data ≠ .cell v) → ∃ cp : List (Addr × Obj), cp.map (·.1) = Ss ∧ ∀ p ∈ cp, h.get? p.1 = some p.2 ∧ ∀ v, p.2.data ≠ .cell v
  | [], _, _ => ⟨[], rfl, fun _ h => nomatch h⟩
  | b :: r, h, k => by
    obtain ⟨o, e, d⟩ := k b (List.mem_cons_self ..)
    obtain ⟨cp, e1, e2⟩ := pins_exist r h fun x hx => k x (List.mem_cons_of_mem _ hx)
    refine ⟨(b, o) :: cp, by rw [List.map_cons, e1], fun p hp => ?_⟩
    rcases List.mem_cons.mp hp with z | z
    · rw [z]; exact ⟨e, d⟩
    · exact e2 p z
theorem GSt.woken {P : Program} {w : World} {K : PySem.W.Frag} {tg : Expr} {J : It} {it : Addr} (T : Turn P w K tg J fp it tn) (hS : SsOk Xg gp fp Ss) (h : GSt Xg gp fp tn Ss σ0 i H s) (z : Slp Ss s s') : GSt Xg gp fp tn Ss σ0 i H s' := by
  obtain ⟨cp, ecp, I, st, nf⟩ := h
  have free : ∀ b ∈ Ss, H b = none ∧ b ∉ Xg.fs := fun b hb => by
    rw [← ecp] at hb
    obtain ⟨p, hp, rfl⟩ := List.mem_map.mp hb
    obtain ⟨_, h2, _, h4, _⟩ := I.pin p (List.mem_append_right _ (List.mem_cons_of_mem _ hp))
    exact ⟨h2, h4⟩
  obtain ⟨z1, z2, z3, z4⟩ := z
  obtain ⟨hh, g, d, t, o⟩ := s'
  have ho : o = s.os := z1
  subst ho
  have I0 : Inv Xg [gp] σ0 H s := I.pins_of fun p hp => I.pin p (List.mem_append_right _ (by rw [List.mem_singleton.mp hp]; exact List.mem_cons_self ..))
  have nt : ∀ b u, H b = some u → b ∉ Ss := fun b u q hb => by rw [(free b hb).1] at q; cases q
  have J : Inv Xg [gp] σ0 H { s with heap := hh, gens := g, drawn := d, toks := t } := by
    refine I0.step (g' := g) (t' := t) (d' := d) (ch := Ss) (fun b hb => ?_) (fun b ob _ _ hc q _ => z3 b ob hc q) (fun b ob _ _ hc q _ => ⟨ob.slots, z3 b ob hc q⟩) (fun _ _ _ _ n => n) (fun b ob hc q => ⟨ob, z3 b ob hc q⟩)
      (fun _ _ q => q) (fun _ _ _ q => q) (fun b ps q => ⟨#[], by rw [q]; simp⟩) (fun m hm => ?_) (fun b u q => ?_) z2
    · obtain ⟨a1, a2, a3, a4, a5⟩ := hS.all b hb
      refine ⟨.inr a1, a2, a3, fun p hp => ?_⟩
      rw [hS.pn] at hp
      rw [List.mem_singleton.mp hp]
      exact Ne.symm a5
    · obtain ⟨ob, es, ep, ho, r⟩ := hm
      exact ⟨ob, es, ep, z3 _ ob (fun q => (hS.all _ q).2.1 rfl) ho, r⟩
    · refine (I0.hok b u q).stay (fun c v hc y => z3 c v ?_ y) (fun _ y => y) fun _ _ y => y
      rcases hc with y | y
      · rw [y]; exact nt b u q
      · exact nt c _ y
  obtain ⟨cp2, e2, k2⟩ := pins_exist Ss hh z4
  refine ⟨cp2, e2, J.pins_of fun p hp => ?_, T.keep _ _ _ st fun b hb ob e => z3 b ob (fun q => (hS.all b q).2.2.2.1 hb) e, nf⟩
  rcases List.mem_cons.mp hp with hp | hp
  · rw [hp]
    exact J.pin gp (List.mem_append_right _ (List.mem_cons_self ..))
  · have hm : p.1 ∈ Ss := by rw [← e2]; exact List.mem_map_of_mem hp
    exact ⟨(k2 p hp).1, (free _ hm).1, (hS.all _ hm).2.1, (free _ hm).2, (k2 p hp).2⟩
end
section
variable {α : Type} (CRel : α → Heap → Prop) (Stp : Stps α) (Fin : α → Hp → Prop) (Xg : Cx) (gp : Addr × Obj) (fp : List Addr) (tn : Nat → Heap → Prop) (Ss : List Addr) (σ0 : L2.St)
def YG : Protocol := fun _ s₀ v s kap => ∃ (i : Nat) (x : V) (acc : α) (H : Hp) (Nx : α → Hp → Prop), RelV x v ∧ GSt Xg gp fp tn Ss σ0 i H s ∧ CRel acc s₀.heap ∧ (∀ b ∈ Ss, s.heap.get? b = s₀.heap.get? b) ∧ Stp acc x H Nx ∧
  ∀ s' acc', Slp Ss s s' → CRel acc' s'.heap → Nx acc' H → kap (.send .none) s'
def RGp : Shared → Shared → Prop := fun s₀ s => ∃ (acc : α) (H : Hp) (cp : List (Addr × Obj)), cp.map (·.1) = Ss ∧ Inv Xg (gp :: cp) σ0 H s ∧ CRel acc s₀.heap ∧ (∀ b ∈ Ss, s.heap.get? b = s₀.heap.get? b) ∧ Fin acc H
def RG : GenEnd := fun _ s₀ r s => r = .ok .next ∧ RGp CRel Fin Xg gp Ss σ0 s₀ s
/-- the reading of the turns -/
def TurnsR (J : It) (g : TG) (tt : TT) (te : TE) (vs : List Nat) (σ : L2.St) (W : Nat → Nat → α → Hp → Prop) : Prop := ∀ i m a H, W i m a H →
  (J.stop i H ∧ Fin a H) ∨ (J.go i H ∧ ∃ Nx : α → Hp → Prop, (∀ a' H', Nx a' H' → ∃ m', m' < m ∧ W (i + 1) m' a' H') ∧ ∀ x H', J.yld i H x H' → g x (wipe σ vs) H' fun σ2 H2 => wipe σ2 vs = wipe σ vs ∧ tt σ2 H2 fun b H3 =>
    if b = true then te σ2 H3 fun y H4 => Stp a y H4 Nx else Nx a H3)
end
section
variable {α : Type} {CRel : α → Heap → Prop} {Stp : Stps α} {Fin : α → Hp → Prop} {Xg : Cx} {gp : Addr × Obj} {fp : List Addr} {tn : Nat → Heap → Prop} {Ss : List Addr} {σ : L2.St}
theorem gx_loop {B : Around} {tg elt iter : Expr} {ifs : List Expr} {scope : Scope} {gpos : Pos} {it : Addr} {J : It} {g : TG} {tt : TT} {te : TE} {vs : List Nat} {W : Nat → Nat → α → Hp → Prop} (hov : B.deeper Xg.env = Xg.A) (hc : Xg.calm = true) (hco : Xg.env.scope.isCoroutine = false) (hxe : Xg.xe = fun _ _ => False)
    (T : Turn Xg.prog Xg.w Xg.K tg J fp it tn) (hfp : ∀ b ∈ fp, ∀ H', H' b = none → FpOk Xg [] H' b) (hS : SsOk Xg gp fp Ss) (hgf : gp.1 ∉ fp) (hg : PG Xg tg g) (ht : PTs Xg ifs tt) (he : PE Xg elt te) (turn : TurnsR Stp Fin J g tt te vs σ W) :
    ∀ (m n i : Nat) (acc : α) (H : Hp) (s₀ s : Shared), m < n → W i m acc H → CRel acc s₀.heap → (∀ b ∈ Ss, s.heap.get? b = s₀.heap.get? b) → GSt Xg gp fp tn Ss (wipe σ vs) i H s →
      Seg (model Xg.prog Xg.w) B (RG CRel Fin Xg gp Ss (wipe σ vs)) (YG CRel Stp Xg gp fp tn Ss (wipe σ vs)) n s₀ (.compLoop (.GeneratorExp elt [⟨tg, iter, ifs, 0⟩] scope gpos) 0 (.ref it) .none Xg.env)
        ((model Xg.prog Xg.w).den (.compLoop (.GeneratorExp elt [⟨tg, iter, ifs, 0⟩] scope gpos) 0 (.ref it) .none Xg.env)) [] s := by
  have hover : B.over (.compLoop (.GeneratorExp elt [⟨tg, iter, ifs, 0⟩] scope gpos) 0 (.ref it) .none Xg.env) [] = Xg.A := over_gen.trans hov
  intro m
  induction m using Nat.strongRecOn with
  | ind m ih =>
    intro n i acc H s₀ s hmn w crel ksS hst
    obtain ⟨cp, ecp, I, st, nf⟩ := hst
    have fpOk : ∀ {pins : List (Addr × Obj)} {σ' : L2.St} {H' : Hp} {s' : Shared}, pins.map (·.1) = gp.1 :: Ss → Inv Xg pins σ' H' s' → (∀ b ∈ fp, H' b = none) → ∀ b ∈ fp, FpOk Xg pins H' b := fun {pins σ' H' s'} ep I' hn b hb => by
      obtain ⟨a0, a1, a2, a3, a4, _⟩ := hfp b hb H' (hn b hb)
      refine ⟨a0, a1, a2, a3, a4, fun p hp z => ?_⟩
      rw [hS.pn, List.nil_append] at hp
      have hm : p.1 ∈ gp.1 :: Ss := by rw [← ep]; exact List.mem_map_of_mem hp
      rcases List.mem_cons.mp hm with q | q
      · rw [z] at q; exact hgf (q ▸ hb)
      · rw [z] at q; exact (hS.all b q).2.2.2.1 hb
    have epin : (gp :: cp).map (·.1) = gp.1 :: Ss := by rw [List.map_cons, ecp]
    have ownSs : ∀ {extra : List (Addr × Obj)} {σ' : L2.St} {H' : Hp} {s' : Shared}, Inv Xg ((gp :: cp) ++ extra) σ' H' s' → ∀ b ∈ Ss, s'.heap.get? b = s₀.heap.get? b := fun {extra σ' H' s'} I' b hb => by
      rw [← ksS b hb]
      rw [← ecp] at hb
      obtain ⟨p, hp, rfl⟩ := List.mem_map.mp hb
      rw [(I'.pin p (List.mem_append_right _ (List.mem_append_left _ (List.mem_cons_of_mem _ hp)))).1, (I.pin p (List.mem_append_right _ (List.mem_cons_of_mem _ hp))).1]
    have I := I
    show Seg _ B _ _ _ s₀ _ ((compTurn (.GeneratorExp elt [⟨tg, iter, ifs, 0⟩] scope gpos) 0 (.ref it) .none Xg.env).onRaise (leaving Xg.env)) [] s
    rw [compTurn_gen, Sem.onRaise_eq_wrap]
    refine seg_bind_wrap (wpAny_standAt ?_)
    rcases turn i m acc H w with ⟨stop, qf⟩ | ⟨go, Nx, hNx, step⟩
    · refine seg_bind_wrap ?_
      rw [hover]
      refine wpAny_mono (T.done Xg rfl rfl rfl hc i (gp :: cp) s (wipe σ vs) H (fun _ _ => False) I (fpOk epin I nf) st stop) (fun r s1 ⟨hr, I1⟩ => ?_) fun _ _ z => z.elim
      subst hr
      exact seg_end (.ok .next) ⟨rfl, acc, H, cp, ecp, I1, crel, ownSs (extra := []) (by rw [List.append_nil]; exact I1), qf⟩
    · refine seg_bind_wrap ?_
      rw [hover]
      refine wpAny_mono (T.item Xg rfl rfl rfl hc i (gp :: cp) s (wipe σ vs) H (fun _ _ => False) I (fpOk epin I nf) st go) (fun r s1 ⟨u, hr, h1⟩ => ?_) fun _ _ z => z.elim
      subst hr
      refine seg_bind_wrap ?_
      rw [hover]
      refine wpAny_mono h1 (fun _ s2 ⟨x, H2, I2, rx, y2, st2, n2⟩ => ?_) fun _ _ z => z.elim
      have I2' := I2.pinned (fpOk epin I2 n2) (T.obj _ _ st2)
      have hxe' : ∀ {α : Type} {t : Sem α} {Q : α → Shared → Prop} {E : Value → Shared → Prop} {s : Shared}, wpAny (model Xg.prog Xg.w) Xg.A t Q Xg.xe s → wpAny (model Xg.prog Xg.w) Xg.A t Q E s := fun h => wpAny_mono h (fun _ _ z => z) fun _ _ z => by rw [hxe] at z; exact z.elim
      refine seg_bind_wrap ?_
      rw [hover]
      refine wpAny_mono (hxe' (hg.run _ s2 (wipe σ vs) H2 x u _ I2' rx (step x H2 y2))) (fun _ s3 ⟨σ3, H3, I3, hw3, q3⟩ => ?_) fun _ _ z => z
      refine seg_bind_wrap ?_
      rw [hover]
      refine wpAny_mono (hxe' (ht.run _ s3 σ3 H3 _ I3 q3)) (fun b s4 ⟨H4, I4, q4⟩ => ?_) fun _ _ z => z
      -- the turn's end
      have fin : ∀ {s' : Shared} {H' : Hp}, Inv Xg ((gp :: cp) ++ pinsAt fp s2.heap) σ3 H' s' → GSt Xg gp fp tn Ss (wipe σ vs) (i + 1) H' s' := fun {s' H'} I' => by
        have pin' : ∀ b ∈ fp, ∀ o, s2.heap.get? b = some o → s'.heap.get? b = some o ∧ H' b = none := fun b hb o e =>
          let z := I'.pin (b, o) (List.mem_append_right _ (List.mem_append_right _ (mem_pinsAt hb e)))
          ⟨z.1, z.2.1⟩
        have hl : (wipe σ vs).length = σ3.length := by rw [← hw3, wipe_length]
        refine ⟨cp, ecp, (I'.unpinned (pins := gp :: cp)).weak hl (fun j v e => ?_), T.keep _ _ _ st2 fun b hb o e => (pin' b hb o e).1, fun b hb => ?_⟩
        · rw [← hw3] at e
          exact (wipe_some e).1
        · obtain ⟨o, e, _⟩ := T.obj _ _ st2 b hb
          exact (pin' b hb o e).2
      cases b with
      | false =>
        simp only [Bool.false_eq_true, if_false] at q4 ⊢
        obtain ⟨m', hm, w'⟩ := hNx _ _ q4
        exact seg_again rfl (ih m' hm n (i + 1) acc H4 s₀ s4 (by omega) w' crel (ownSs I4) (fin I4))
      | true =>
        simp only [if_true] at q4 ⊢
        have hy : ∀ v, yieldOut Xg.env v = yieldValue v := fun v => by simp only [yieldOut, hco, Bool.false_eq_true, if_false]
        simp only [hy]
        obtain ⟨n', rfl⟩ : ∃ n', n = n' + 1 := ⟨n - 1, by omega⟩
        rw [Sem.bind_eq_wrap', Sem.bind_eq_wrap', Sem.wrap_wrap, Sem.wrap_wrap]
        refine seg_wrap ?_
        rw [hover]
        refine wpAny_mono (hxe' (he.run _ s4 σ3 H4 _ I4 q4)) (fun yv s5 ⟨y, H5, I5, ry, q5⟩ => ?_) fun _ _ z => z
        refine seg_at (seg_yield rfl rfl rfl ⟨i + 1, y, acc, H5, Nx, ry, fin I5, crel, ownSs I5, q5, fun s6 acc' sl cr nx => ?_⟩)
        obtain ⟨m', hm, w'⟩ := hNx _ _ nx
        exact seg_again rfl (ih m' hm n' (i + 1) acc' H5 s6 s6 (by omega) w' cr (fun _ _ => rfl) ((fin I5).woken T hS sl))
end
end GX

namespace GX
open PySem PySem.Spec PyProof.Rows L2 GenW
theorem eval_GeneratorExpM (elt target iter : Expr) (ifs : List Expr) (more : List Comprehension) (scope : Scope) (pos : Pos) (env : Env) (hco : scope.isCoroutine = false) :
    eval (.GeneratorExp elt (⟨target, iter, ifs, 0⟩ :: more) scope pos) env = (do
      let x ← eval iter env
      standAt iter.pos
      let x ← genFold iter env x
      let it ← holding [x] (pyIter x)
      enterFrame
      let cl ← closureFor scope env
      let code ← genexprCode env pos (env.qual ++ "<genexpr>") scope
      let bi ← builtinsFor env.globals env.builtins
      let cenv ← newFunctionEnv scope env.globals cl [(".0", it)] (env.qual ++ "<genexpr>.") none code none bi
      newGenerator (.compStart (.GeneratorExp elt (⟨target, iter, ifs, 0⟩ :: more) scope pos) 0 it .none cenv) "<genexpr>" (env.qual ++ "<genexpr>")) := by
  rw [arm_eval_GeneratorExp]
  simp only [hco, Bool.false_eq_true, if_false]
  cases iter <;> rfl
section
variable {X : Cx} {pins : List (Addr × Obj)} {σ : L2.St} {H : Hp} {s : Shared}
/-- the generator is made: at a, its frame laid, its first turn not begun; s3: the state ahead of its frame -/
structure Made (X : Cx) (pins : List (Addr × Obj)) (σ : L2.St) (tg elt iter : Expr) (ifs : List Expr) (more : List Comprehension) (scope : Scope) (gpos : Pos) (own : List (Str × Nat)) (J : It) (code : Value) (H3 : Hp) (s3 : Shared) (it : Addr) (fp : List Addr) (tn : Nat → Heap → Prop) (a : Addr) (g : Nat) (gob : Obj) (s5 : Shared) : Prop where
  inv : Inv X pins σ H3 s3
  turn : Turn X.prog X.w X.K tg J fp it tn
  fps : ∀ b ∈ fp, FpOk X pins H3 b ∧ b < s3.heap.objs.size
  st : tn 0 s5.heap
  ag : s3.heap.objs.size ≤ a
  get : s5.heap.get? a = some gob
  obj : gob.cls = .type "generator" ∧ (∃ nm qn, gob.data = .fields #[.int g 0, nm, qn]) ∧ gob.slots = #[]
  gen : s5.gens[g]? = some (.fresh (.compStart (.GeneratorExp elt (⟨tg, iter, ifs, 0⟩ :: more) scope gpos) 0 (.ref it) .none (gEnv X scope s3 code)))
  sub : ∀ B : Around, BOk X B (gEnv X scope s3 code) → Inv (gcx X B s3 H3 scope (gEnv X scope s3 code) fp) [(a, gob)] (wipe σ (own.map (·.2))) H3 s5
theorem Made.isGen {tg elt iter : Expr} {ifs : List Expr} {more : List Comprehension} {scope : Scope} {gpos : Pos} {own : List (Str × Nat)} {J : It} {code : Value} {H3 : Hp} {s3 : Shared} {it : Addr} {fp : List Addr} {tn : Nat → Heap → Prop} {a : Addr} {g : Nat} {gob : Obj} {s5 : Shared} (M : Made X pins σ tg elt iter ifs more scope gpos own J code H3 s3 it fp tn a g gob s5)
    {h : Heap} (e : h.get? a = some gob) : h.IsGen a g := let ⟨h1, ⟨nm, qn, h2⟩, h3⟩ := M.obj; ⟨gob, nm, qn, e, h1, h2, h3⟩
theorem gx_eval {tg elt iter : Expr} {ifs : List Expr} {more : List Comprehension} {scope : Scope} {gpos : Pos} {own : List (Str × Nat)} {ti : TI} {tc : TC} {P0 : Addr} {k : Nat} {Want : It → Value → Hp → Prop} {Q' : Value → Shared → Prop} (I : Inv X pins σ H s) (hN : X.N.Nodup) (room : Room k X.A) (hi : PI X tg iter ti) (hpc : PC X gpos scope tc) (BA : X.base.BuiltinsAt X.mg P0) (ok : GOk X.N X.env.scope scope own)
    (hs : ∀ v, genFold iter X.env v = pure v) (h : ti σ H fun J H1 => tc σ H1 fun code H2 => Want J code H2)
    (fin : ∀ J code H3 s3 it fp tn a g gob s5, Want J code H3 → Made X pins σ tg elt iter ifs more scope gpos own J code H3 s3 it fp tn a g gob s5 → Q' (.ref a) s5) :
    wpAny (model X.prog X.w) X.A (eval (.GeneratorExp elt (⟨tg, iter, ifs, 0⟩ :: more) scope gpos) X.env) Q' X.xe s := by
  have hfree : ∀ y ∈ scope.names, y.2 = .free → ∃ c, X.env.cells.lookup y.1 = some c := fun y hy e => by
    rcases ok.blk.free y hy e with k | k
    · exact I.ok.has _ (.inl k)
    · exact I.ok.has _ (.inr k)
  have deep : X.A.depth < recursionLimit := by have := room.dp; omega
  rw [eval_GeneratorExpM _ _ _ _ _ _ _ _ ok.co, closure_ok hfree]
  refine wpAny_bind (thn (hi.run pins s σ H _ I h) fun xv s1 h1 => ?_)
  refine wpAny_bind (wpAny_standAt ?_)
  refine wpAny_bind (wpAny_of_eq (hs xv) ?_)
  refine wpAny_bind (wpAny_holding (thn h1 fun itv s2 h2 => ?_))
  obtain ⟨it, fp, tn, J, H2, e, I2, T, st2, f2, q2⟩ := h2
  subst e
  refine wpAny_bind (wpAny_enterFrame I2.nolimit deep ?_)
  refine wpAny_bind (wpAny_pure ?_)
  have sz : ∀ b ∈ fp, b < s2.heap.objs.size := fun b hb => by
    obtain ⟨o, e, _⟩ := T.obj _ _ st2 b hb
    exact Heap.lt_size e
  have I2' := I2.pinned f2 (T.obj _ _ st2)
  refine wpAny_bind (thn (hpc.run _ s2 σ H2 _ _ I2' q2) fun code s3 ⟨H3, I3', le3, want⟩ => ?_)
  have pin3 : ∀ b ∈ fp, ∀ o, s2.heap.get? b = some o → s3.heap.get? b = some o ∧ H3 b = none := fun b hb o e =>
    let z := I3'.pin (b, o) (List.mem_append_right _ (List.mem_append_right _ (mem_pinsAt hb e)))
    ⟨z.1, z.2.1⟩
  have I3 : Inv X pins σ H3 s3 := I3'.unpinned
  have st3 : tn 0 s3.heap := T.keep _ _ _ st2 fun b hb o e => (pin3 b hb o e).1
  have f3 : ∀ b ∈ fp, FpOk X pins H3 b ∧ b < s3.heap.objs.size := fun b hb => by
    obtain ⟨o, e, _⟩ := T.obj _ _ st2 b hb
    exact ⟨⟨(pin3 b hb o e).2, (f2 b hb).2⟩, Heap.lt_size (pin3 b hb o e).1⟩
  obtain ⟨bm, ob, b1, b2, _, _, b3, b4, b5, b6⟩ := BA
  have glob : s3.heap.Ns X.env.globals X.mg := by rw [I3.ok.glob]; exact I3.mod.glob.keeps I3.bk
  refine wpAny_bind (wpAny_builtinsFor (m := X.mg) glob b1 b2 (I3.bk bm ob b3) b4 b5 b6 ?_)
  refine wpAny_bind (newGenEnv (s := s3) ok.blk.kind ok.dot fun h' hn' hs' => ?_)
  simp only [newGenerator, newFields]
  refine wpAny_bind (wpAny_newGen (wpAny_bind (wpAny_mkText (wpAny_bind (wpAny_mkText (wpAny_newObj_type ?_ (by size_fits)))))))
  have kp0 : ∀ b o, s3.heap.get? b = some o → h'.get? b = some o := fun b o e => hs'.extBut b o (Nat.ne_of_lt (Heap.lt_size e)) (pushCells_keeps _ _ _ _ (Heap.get?_push_of_some _ e))
  have hsz : s3.heap.objs.size < h'.objs.size := hn'.lt
  refine fin J code H3 s3 it fp tn h'.objs.size s3.gens.size _ _ want ⟨I3, T, f3, ?_, Nat.le_of_lt hsz, Heap.get?_push_size _ rfl, ⟨rfl, ⟨_, _, rfl⟩, rfl⟩, Array.getElem?_push_size .., fun B hB => ?_⟩
  · exact T.keep _ _ _ st3 fun b _ o e => Heap.get?_push_of_some _ (kp0 b o e)
  · have I4 := gx_start (t' := s3.toks + 1) (it := .ref it) I3 ok hN f3 hB hn' hs'
    have I5 := inv_gens (g' := s3.gens.push (.fresh (.compStart (.GeneratorExp elt (⟨tg, iter, ifs, 0⟩ :: more) scope gpos) 0 (.ref it) .none (gEnv X scope s3 code)))) (d' := s3.drawn) (t' := s3.toks + 1 + 1 + 1) (h' := h'.push { cls := .type "generator", data := .fields #[.int s3.gens.size 0, .str "<genexpr>" (s3.toks + 1), .str (X.env.qual ++ "<genexpr>") (s3.toks + 1 + 1)] }) I4 (fun b o e => Heap.get?_push_of_some _ e) (I3.bare.push rfl)
    refine I5.pins_of fun p hp => ?_
    rw [List.mem_singleton.mp hp]
    have nw : H3 h'.objs.size = none := I4.hok.fresh (Nat.le_refl _)
    exact ⟨Heap.get?_push_size _ rfl, nw, Nat.ne_of_gt I4.lt, I4.nofs (Nat.le_refl _), fun v z => by cases z⟩
end
end GX

namespace GX
open PySem PySem.Spec PyProof.Rows L2 GenW
section
variable {X : Cx} {pins : List (Addr × Obj)} {σ : L2.St} {tg elt iter : Expr} {ifs : List Expr} {more : List Comprehension} {scope : Scope} {gpos : Pos} {own : List (Str × Nat)} {J : It} {code : Value} {H3 : Hp} {s3 : Shared} {it : Addr} {fp : List Addr} {tn : Nat → Heap → Prop} {a : Addr} {g : Nat} {gob : Obj} {s5 : Shared}
/-- back in the def's context -/
theorem Made.back (M : Made X pins σ tg elt iter ifs more scope gpos own J code H3 s3 it fp tn a g gob s5) {B : Around} {ps : List (Addr × Obj)} {σ' : L2.St} {H : Hp} {s1 s' : Shared} (I1 : Inv (gcx X B s3 H3 scope (gEnv X scope s3 code) fp) ps σ' H s1) (ho : s'.os = s1.os) (hb : AllBare s'.gens) (k : ∀ b o, s1.heap.get? b = some o → s'.heap.get? b = some o) : Inv X pins σ H s' := by
  refine M.inv.call' (ch := fp) (ho.trans I1.os) (I1.base.trans (Un.kept k)) (I1.hok.kept k) hb fun b hb => ?_
  have f := (M.fps b hb).1
  exact ⟨f.2.2.2.1, f.2.1, f.2.2.2.2.1, f.2.2.2.2.2⟩
abbrev Made.cx (_ : Made X pins σ tg elt iter ifs more scope gpos own J code H3 s3 it fp tn a g gob s5) (A : Around) : Cx := gcx X (A.deeper (gEnv X scope s3 code)) s3 H3 scope (gEnv X scope s3 code) fp
theorem Made.bok (_ : Made X pins σ tg elt iter ifs more scope gpos own J code H3 s3 it fp tn a g gob s5) {A : Around} (hd : A.handled = none) (hf : A.frames = some X.stack) : BOk X (A.deeper (gEnv X scope s3 code)) (gEnv X scope s3 code) := ⟨hd, Around.frames_deeper hf⟩
theorem Made.ss (M : Made X pins σ tg elt iter ifs more scope gpos own J code H3 s3 it fp tn a g gob s5) {A : Around} (hB : BOk X (A.deeper (gEnv X scope s3 code)) (gEnv X scope s3 code)) {Ss : List Addr} (h : ∀ b ∈ Ss, s5.heap.objs.size ≤ b) : SsOk (M.cx A) (a, gob) fp Ss := by
  have I5 := M.sub _ hB
  refine ⟨fun b hb => ?_, rfl⟩
  have lt := h b hb
  refine ⟨Nat.le_trans I5.sz lt, Nat.ne_of_gt (Nat.lt_of_lt_of_le I5.lt lt), fun x c e z => ?_, fun z => ?_, fun z => ?_⟩
  · obtain ⟨v, q⟩ := I5.cell x c e
    have := q.lt
    rw [z] at this
    exact Nat.lt_irrefl _ (Nat.lt_of_lt_of_le this lt)
  · have := (M.fps b z).2
    exact Nat.lt_irrefl _ (Nat.lt_of_lt_of_le this (Nat.le_trans I5.sz lt))
  · have e := M.get
    have z : b = a := z
    rw [← z] at e
    exact Nat.lt_irrefl _ (Nat.lt_of_lt_of_le (Heap.lt_size e) lt)
/-- the first turn -/
theorem Made.wake (M : Made X pins σ tg elt iter ifs [] scope gpos own J code H3 s3 it fp tn a g gob s5) {α : Type} {CRel : α → Heap → Prop} {Stp : Stps α} {Fin : α → Hp → Prop} {Ss : List Addr} {g' : TG} {tt : TT} {te : TE} {W : Nat → Nat → α → Hp → Prop} {A : Around} {m0 n : Nat} {a0 : α} {s2 : Shared}
    (hco : scope.isCoroutine = false) (hd : A.handled = none) (hf : A.frames = some X.stack) (hg : PG (M.cx A) tg g') (ht : PTs (M.cx A) ifs tt) (he : PE (M.cx A) elt te) (turn : TurnsR Stp Fin J g' tt te (own.map (·.2)) σ W) (w0 : W 0 m0 a0 H3) (hmn : m0 < n)
    (ho : s2.os = s5.os) (hb : AllBare s2.gens) (hk : ∀ b o, s5.heap.get? b = some o → s2.heap.get? b = some o) (hS : ∀ b ∈ Ss, s5.heap.objs.size ≤ b ∧ ∃ o, s2.heap.get? b = some o ∧ ∀ v, o.data ≠ .cell v) (cr : CRel a0 s2.heap) :
    Seg (model X.prog X.w) A (RG CRel Fin (M.cx A) (a, gob) Ss (wipe σ (own.map (·.2)))) (YG CRel Stp (M.cx A) (a, gob) fp tn Ss (wipe σ (own.map (·.2)))) n s2 (.compStart (.GeneratorExp elt [⟨tg, iter, ifs, 0⟩] scope gpos) 0 (.ref it) .none (gEnv X scope s3 code))
      ((model X.prog X.w).den (.compStart (.GeneratorExp elt [⟨tg, iter, ifs, 0⟩] scope gpos) 0 (.ref it) .none (gEnv X scope s3 code))) [] s2 := by
  have hB := M.bok hd hf
  have I5 := M.sub _ hB
  have SO := M.ss hB fun b hb => (hS b hb).1
  have hgf : a ∉ fp := fun z => Nat.lt_irrefl _ (Nat.lt_of_lt_of_le (M.fps a z).2 M.ag)
  have fpOk : ∀ b ∈ fp, ∀ H' : Hp, H' b = none → FpOk (M.cx A) [] H' b := fun b hb H' hn => by
    refine ⟨hn, (I5.ok.exf b hb).1, I5.ok.exfs b hb, .inl hb, fun x c e => (I5.ok.exf b hb).2 x c e, fun p hp => absurd (show p ∈ ([] : List (Addr × Obj)) ++ [] from hp) (by simp)⟩
  have I2 : Inv (M.cx A) [(a, gob)] (wipe σ (own.map (·.2))) H3 s2 := by
    have J := inv_gens (g' := s2.gens) (d' := s2.drawn) (t' := s2.toks) I5 hk hb
    rw [GxR.sh_eta s5 s2 ho] at J
    exact J
  obtain ⟨cp, ecp, hcp⟩ := pins_exist Ss s2.heap fun b hb => (hS b hb).2
  have st2 : GSt (M.cx A) (a, gob) fp tn Ss (wipe σ (own.map (·.2))) 0 H3 s2 := by
    refine ⟨cp, ecp, I2.pins_of fun p hp => ?_, M.turn.keep _ _ _ M.st fun b _ o e => hk b o e, fun b hb => (M.fps b hb).1.1⟩
    rcases List.mem_cons.mp hp with z | z
    · rw [z]
      exact I2.pin (a, gob) (List.mem_append_right _ (List.mem_cons_self ..))
    · have hm : p.1 ∈ Ss := by rw [← ecp]; exact List.mem_map_of_mem z
      have lt := (hS _ hm).1
      exact ⟨(hcp p z).1, I5.hok.fresh lt, (SO.all _ hm).2.1, I5.nofs lt, (hcp p z).2⟩
  have loop := gx_loop (iter := iter) (gpos := gpos) (B := A) (CRel := CRel) (Xg := M.cx A) (scope := scope) (it := it) rfl rfl hco rfl M.turn fpOk SO hgf hg ht he turn m0 n 0 a0 H3 s2 s2 hmn w0 cr (fun _ _ => rfl) st2
  have hover : A.over (.compStart (.GeneratorExp elt [⟨tg, iter, ifs, 0⟩] scope gpos) 0 (.ref it) .none (gEnv X scope s3 code)) [] = A.deeper (gEnv X scope s3 code) := over_gen0
  show Seg _ A _ _ _ s2 _ ((compStart (.GeneratorExp elt [⟨tg, iter, ifs, 0⟩] scope gpos) 0 (.ref it) .none (gEnv X scope s3 code)).onRaise (leaving (gEnv X scope s3 code))) [] s2
  unfold compStart
  rw [Sem.onRaise_eq_wrap]
  show Seg _ A _ _ _ s2 _ ((ask >>= _).wrap _ _ _ _) [] s2
  have st := M.turn.keep _ _ _ M.st fun b _ o e => hk b o e
  refine seg_bind_wrap (wpAny_askSetting ?_)
  split
  · exact seg_again rfl loop
  · first
      | exact seg_bind_wrap (wpAny_rule (seg_bind_wrap (wpAny_standAt (seg_bind_wrap (M.turn.self _ 0 s2 _ _ st (seg_again rfl loop))))))
      | (refine seg_bind_wrap (wpAny_rule ?_); show Seg _ A _ _ _ s2 _ ((standAt iter.pos >>= _).wrap _ _ _ _) [] s2; exact seg_bind_wrap (wpAny_standAt (seg_bind_wrap (M.turn.self _ 0 s2 _ _ st (seg_again rfl loop)))))
/-- next -/
theorem Made.next (M : Made X pins σ tg elt iter ifs more scope gpos own J code H3 s3 it fp tn a g gob s5) {α : Type} {CRel : α → Heap → Prop} {Stp : Stps α} {Fin : α → Hp → Prop} {fpY : List Addr} {tnY : Nat → Heap → Prop} {Ss : List Addr} {σ0 : L2.St} {A : Around} {n : Nat} {s : Shared} {gs : GenState} {Qo : Option Value → Shared → Prop} {E : Value → Shared → Prop}
    (hh : A.handled = none) (hdp : A.depth < recursionLimit) (hG : s.heap.get? a = some gob) (hl : s.heap.NoLimit) (hgs : s.gens[g]? = some gs)
    (hgo : gs.Goes (model X.prog X.w) A.in1 (RG CRel Fin (M.cx A.in1) (a, gob) Ss σ0) (YG CRel Stp (M.cx A.in1) (a, gob) fpY tnY Ss σ0) n (.send .none) (s.setGen g .running))
    (hY : ∀ v s1 gs' i x acc H Nx, gs'.bare = true → RelV x v → GSt (M.cx A.in1) (a, gob) fpY tnY Ss σ0 i H s1 → CRel acc s.heap → (∀ b ∈ Ss, s1.heap.get? b = s.heap.get? b) → Stp acc x H Nx → g < s1.gens.size →
      (∀ s' acc', Slp Ss s1 s' → CRel acc' s'.heap → Nx acc' H → ∃ n', n = n' + 1 ∧ gs'.Goes (model X.prog X.w) A.in1 (RG CRel Fin (M.cx A.in1) (a, gob) Ss σ0) (YG CRel Stp (M.cx A.in1) (a, gob) fpY tnY Ss σ0) n' (.send .none) s') → Qo (some v) (s1.setGen g gs'))
    (hP : ∀ s1 h', RGp CRel Fin (M.cx A.in1) (a, gob) Ss σ0 (s.setGen g .running) s1 → (∀ b o, s1.heap.get? b = some o → h'.get? b = some o) → Qo none { s1.setGen g .finished with heap := h' }) :
    wpAny (model X.prog X.w) A (pyNext (.ref a)) Qo E s := by
  have hgl : g < s.gens.size := (Array.getElem?_eq_some_iff.mp hgs).1
  refine wpAny_mono (wpAny_gsz (n := g + 1) hgl (wpAny_pyNext_genexpQ (n := n) (P := fun _ => RGp CRel Fin (M.cx A.in1) (a, gob) Ss σ0) (Y := YG CRel Stp (M.cx A.in1) (a, gob) fpY tnY Ss σ0) (Q := fun r s' => g + 1 ≤ s'.gens.size → Qo r s') (E := fun e s' => g + 1 ≤ s'.gens.size → E e s') hh hl hdp (M.isGen hG) hgs hgo (fun v s1 gs' hb hv hsz => ?_) (fun s1 hp h' hk _ => hP s1 h' hp hk))) (fun _ _ z => z) (fun _ _ z => z)
  obtain ⟨i, x, acc, H, Nx, rx, st, cr, ks, sp, kap⟩ := hv
  have hsz1 : g < s1.gens.size := by
    have q : (s1.setGen g gs').gens.size = s1.gens.size := setGen_size _ _ _
    omega
  refine hY v s1 gs' i x acc H Nx hb rx st cr ks sp hsz1 fun s' acc' sl cr' nx => ?_
  have z := kap s' acc' sl cr' nx
  cases n with
  | zero => exact z.elim
  | succ n' => exact ⟨n', rfl, z⟩
end
end GX

namespace GX
open PySem PySem.Spec PyProof.Rows L2 GenW
def stAll (Q : VK) : Stps Unit := fun _ y H N => ∃ b, y = .bl b ∧ if b = true then N () H else Q (.bl false) H
def fiAll (Q : VK) : Unit → Hp → Prop := fun _ H => Q (.bl true) H
def stAny (Q : VK) : Stps Unit := fun _ y H N => ∃ b, y = .bl b ∧ if b = true then Q (.bl true) H else N () H
def fiAny (Q : VK) : Unit → Hp → Prop := fun _ H => Q (.bl false) H
def stSum (Q : VK) : Stps Int := fun acc y H N => ∃ i, y = .int i ∧ N (acc + i) H
def fiSum (Q : VK) : Int → Hp → Prop := fun acc H => Q (.int acc) H
def crU : Unit → Heap → Prop := fun _ _ => True
abbrev lstO (xs : Array Value) (c : Nat) : Obj := { cls := .type "list", dict := none, data := .seq xs c, slots := #[] }
def crSum (S : Addr) : Int → Heap → Prop := fun acc h => ∃ t c, h.get? S = some (lstO #[.int acc t] c)
section
variable {X : Cx} {pins : List (Addr × Obj)} {σ : L2.St} {tg elt iter : Expr} {ifs : List Expr} {more : List Comprehension} {scope : Scope} {gpos : Pos} {own : List (Str × Nat)} {J : It} {code : Value} {H3 : Hp} {s3 : Shared} {it : Addr} {fp : List Addr} {tn : Nat → Heap → Prop} {a : Addr} {g : Nat} {gob : Obj} {s5 : Shared} {fpY : List Addr} {tnY : Nat → Heap → Prop}
theorem gst_get {Xg : Cx} {gp : Addr × Obj} {fp : List Addr} {tn : Nat → Heap → Prop} {Ss : List Addr} {σ0 : L2.St} {i : Nat} {H : Hp} {s : Shared} (h : GSt Xg gp fp tn Ss σ0 i H s) : s.heap.get? gp.1 = some gp.2 ∧ s.heap.NoLimit ∧ AllBare s.gens ∧ ∀ b ∈ Ss, H b = none := by
  obtain ⟨cp, ecp, I, _, _⟩ := h
  refine ⟨(I.pin gp (List.mem_append_right _ (List.mem_cons_self ..))).1, I.nolimit, I.bare, fun b hb => ?_⟩
  rw [← ecp] at hb
  obtain ⟨p, hp, rfl⟩ := List.mem_map.mp hb
  exact (I.pin p (List.mem_append_right _ (List.mem_cons_of_mem _ hp))).2.1
theorem Made.all_loop (M : Made X pins σ tg elt iter ifs more scope gpos own J code H3 s3 it fp tn a g gob s5) {A : Around} {σ0 : L2.St} {R : Result → Shared → Prop} {Q : VK} (hh : A.handled = none) (hdp : A.depth < recursionLimit)
    (hret : ∀ v u H s', Inv X pins σ H s' → RelV v u → Q v H → R (.ok (.ret u)) s') : ∀ (n : Nat) (s : Shared) (gs : GenState), s.heap.get? a = some gob → s.heap.NoLimit → s.gens[g]? = some gs →
    gs.Goes (model X.prog X.w) A.in1.in1 (RG crU (fiAll Q) (M.cx A.in1.in1) (a, gob) [] σ0) (YG crU (stAll Q) (M.cx A.in1.in1) (a, gob) fpY tnY [] σ0) n (.send .none) (s.setGen g .running) →
    codeAny (model X.prog X.w) A (.builtin "all.loop" ⟨[.ref a], []⟩) R s := by
  intro n
  induction n with
  | zero =>
    intro s gs hG hl hgs hgo
    refine codeAny_builtin F.entry_all_loop ?_
    rw [Around.under_plainId F.plain_all_loop _]
    show wpAny _ A.in1 (pyNext (.ref a) >>= _) _ _ s
    refine wpAny_bind (M.next (A := A.in1) hh hdp hG hl hgs hgo (fun v s1 gs' i x acc H Nx hb rx st cr ks sp hsz kap => ?_) (fun s1 h' hp hk => ?_))
    · obtain ⟨b, rfl, q⟩ := sp
      cases rx
      refine wpAny_bind (wpAny_holding (wpAny_truthy_bool ?_))
      refine wpAny_bind (wpAny_letGo ?_)
      obtain ⟨_, _, bare, _⟩ := gst_get st
      cases b with
      | true =>
        simp only [if_true] at q
        obtain ⟨n', hn, _⟩ := kap s1 () ⟨rfl, bare, fun _ _ _ e => e, fun _ h => nomatch h⟩ trivial q
        omega
      | false =>
        simp only [Bool.false_eq_true, if_false] at q ⊢
        obtain ⟨cp, _, I1, _, _⟩ := st
        exact wpAny_bind (wpAny_rule (wpAny_pure (hret (.bl false) _ H _ (M.back I1 rfl (allBare_setGen bare hb) fun _ _ e => e) rfl q)))
    · obtain ⟨acc, H, cp, _, I1, _, _, q⟩ := hp
      exact wpAny_bind (wpAny_rule (wpAny_pure (hret (.bl true) _ H _ (M.back I1 rfl (allBare_setGen I1.bare rfl) hk) rfl q)))
  | succ n ih =>
    intro s gs hG hl hgs hgo
    refine codeAny_builtin F.entry_all_loop ?_
    rw [Around.under_plainId F.plain_all_loop _]
    show wpAny _ A.in1 (pyNext (.ref a) >>= _) _ _ s
    refine wpAny_bind (M.next (A := A.in1) hh hdp hG hl hgs hgo (fun v s1 gs' i x acc H Nx hb rx st cr ks sp hsz kap => ?_) (fun s1 h' hp hk => ?_))
    · obtain ⟨b, rfl, q⟩ := sp
      cases rx
      refine wpAny_bind (wpAny_holding (wpAny_truthy_bool ?_))
      refine wpAny_bind (wpAny_letGo ?_)
      obtain ⟨eG, nl, bare, _⟩ := gst_get st
      cases b with
      | true =>
        simp only [if_true] at q ⊢
        obtain ⟨n', hn, go'⟩ := kap ((s1.setGen g gs').setGen g .running) () ⟨rfl, allBare_setGen (s := s1.setGen g gs') (allBare_setGen bare hb) rfl, fun _ _ _ e => e, fun _ h => nomatch h⟩ trivial q
        obtain rfl : n' = n := by omega
        exact wpAny_pure ⟨plainId_quiet F.plain_all_loop _, ih _ gs' eG nl (setGen_at hsz) go'⟩
      | false =>
        simp only [Bool.false_eq_true, if_false] at q ⊢
        obtain ⟨cp, _, I1, _, _⟩ := st
        exact wpAny_bind (wpAny_rule (wpAny_pure (hret (.bl false) _ H _ (M.back I1 rfl (allBare_setGen bare hb) fun _ _ e => e) rfl q)))
    · obtain ⟨acc, H, cp, _, I1, _, _, q⟩ := hp
      exact wpAny_bind (wpAny_rule (wpAny_pure (hret (.bl true) _ H _ (M.back I1 rfl (allBare_setGen I1.bare rfl) hk) rfl q)))
theorem Made.any_loop (M : Made X pins σ tg elt iter ifs more scope gpos own J code H3 s3 it fp tn a g gob s5) {A : Around} {σ0 : L2.St} {R : Result → Shared → Prop} {Q : VK} (hh : A.handled = none) (hdp : A.depth < recursionLimit)
    (hret : ∀ v u H s', Inv X pins σ H s' → RelV v u → Q v H → R (.ok (.ret u)) s') : ∀ (n : Nat) (s : Shared) (gs : GenState), s.heap.get? a = some gob → s.heap.NoLimit → s.gens[g]? = some gs →
    gs.Goes (model X.prog X.w) A.in1.in1 (RG crU (fiAny Q) (M.cx A.in1.in1) (a, gob) [] σ0) (YG crU (stAny Q) (M.cx A.in1.in1) (a, gob) fpY tnY [] σ0) n (.send .none) (s.setGen g .running) →
    codeAny (model X.prog X.w) A (.builtin "any.loop" ⟨[.ref a], []⟩) R s := by
  intro n
  induction n with
  | zero =>
    intro s gs hG hl hgs hgo
    refine codeAny_builtin F.entry_any_loop ?_
    rw [Around.under_plainId F.plain_any_loop _]
    show wpAny _ A.in1 (pyNext (.ref a) >>= _) _ _ s
    refine wpAny_bind (M.next (A := A.in1) hh hdp hG hl hgs hgo (fun v s1 gs' i x acc H Nx hb rx st cr ks sp hsz kap => ?_) (fun s1 h' hp hk => ?_))
    · obtain ⟨b, rfl, q⟩ := sp
      cases rx
      refine wpAny_bind (wpAny_holding (wpAny_truthy_bool ?_))
      refine wpAny_bind (wpAny_letGo ?_)
      obtain ⟨_, _, bare, _⟩ := gst_get st
      cases b with
      | false =>
        simp only [Bool.false_eq_true, if_false] at q
        obtain ⟨n', hn, _⟩ := kap s1 () ⟨rfl, bare, fun _ _ _ e => e, fun _ h => nomatch h⟩ trivial q
        omega
      | true =>
        simp only [if_true] at q ⊢
        obtain ⟨cp, _, I1, _, _⟩ := st
        exact wpAny_bind (wpAny_rule (wpAny_pure (hret (.bl true) _ H _ (M.back I1 rfl (allBare_setGen bare hb) fun _ _ e => e) rfl q)))
    · obtain ⟨acc, H, cp, _, I1, _, _, q⟩ := hp
      exact wpAny_bind (wpAny_rule (wpAny_pure (hret (.bl false) _ H _ (M.back I1 rfl (allBare_setGen I1.bare rfl) hk) rfl q)))
  | succ n ih =>
    intro s gs hG hl hgs hgo
    refine codeAny_builtin F.entry_any_loop ?_
    rw [Around.under_plainId F.plain_any_loop _]
    show wpAny _ A.in1 (pyNext (.ref a) >>= _) _ _ s
    refine wpAny_bind (M.next (A := A.in1) hh hdp hG hl hgs hgo (fun v s1 gs' i x acc H Nx hb rx st cr ks sp hsz kap => ?_) (fun s1 h' hp hk => ?_))
    · obtain ⟨b, rfl, q⟩ := sp
      cases rx
      refine wpAny_bind (wpAny_holding (wpAny_truthy_bool ?_))
      refine wpAny_bind (wpAny_letGo ?_)
      obtain ⟨eG, nl, bare, _⟩ := gst_get st
      cases b with
      | false =>
        simp only [Bool.false_eq_true, if_false] at q ⊢
        obtain ⟨n', hn, go'⟩ := kap ((s1.setGen g gs').setGen g .running) () ⟨rfl, allBare_setGen (s := s1.setGen g gs') (allBare_setGen bare hb) rfl, fun _ _ _ e => e, fun _ h => nomatch h⟩ trivial q
        obtain rfl : n' = n := by omega
        exact wpAny_pure ⟨plainId_quiet F.plain_any_loop _, ih _ gs' eG nl (setGen_at hsz) go'⟩
      | true =>
        simp only [if_true] at q ⊢
        obtain ⟨cp, _, I1, _, _⟩ := st
        exact wpAny_bind (wpAny_rule (wpAny_pure (hret (.bl true) _ H _ (M.back I1 rfl (allBare_setGen bare hb) fun _ _ e => e) rfl q)))
    · obtain ⟨acc, H, cp, _, I1, _, _, q⟩ := hp
      exact wpAny_bind (wpAny_rule (wpAny_pure (hret (.bl false) _ H _ (M.back I1 rfl (allBare_setGen I1.bare rfl) hk) rfl q)))
/-- the consumer has written its list -/
theorem slp_upd {S : Addr} {s1 : Shared} {g : Nat} {gs' gs2 : GenState} {f : Obj → Obj} {o : Obj} {tk : Nat} (bare : AllBare s1.gens) (hb : gs'.bare = true) (hb2 : gs2.bare = true) (eS : (s1.heap.update S f).get? S = some o) (nc : ∀ v, o.data ≠ .cell v) :
    Slp [S] s1 (({ s1.setGen g gs' with heap := s1.heap.update S f, toks := tk } : Shared).setGen g gs2) where
  os := rfl
  bare := allBare_setGen (s := { s1.setGen g gs' with heap := s1.heap.update S f, toks := tk }) (allBare_setGen (s := s1) bare hb) hb2
  keep := fun b o hb e => (Heap.get?_update_other _ _ (fun z => hb (by rw [z]; exact List.mem_singleton.mpr rfl))).trans e
  own := fun b hb => by rw [List.mem_singleton.mp hb]; exact ⟨o, eS, nc⟩
theorem Made.sum_loop (M : Made X pins σ tg elt iter ifs more scope gpos own J code H3 s3 it fp tn a g gob s5) {A : Around} {σ0 : L2.St} {R : Result → Shared → Prop} {Q : VK} {S : Addr} (hh : A.handled = none) (hdp : A.depth < recursionLimit) (hSa : a ≠ S) (hSc : cStatics ≠ S)
    (hret : ∀ v u H s', Inv X pins σ H s' → RelV v u → Q v H → R (.ok (.ret u)) s') : ∀ (n : Nat) (s : Shared) (gs : GenState) (acc : Int) (t : Tok) (c : Nat) (st : Int), (st = 0 ∨ st = 2) → s.heap.get? a = some gob → s.heap.NoLimit → s.gens[g]? = some gs → s.heap.get? S = some (lstO #[.int acc t] c) →
    gs.Goes (model X.prog X.w) A.in1.in1 (RG (crSum S) (fiSum Q) (M.cx A.in1.in1) (a, gob) [S] σ0) (YG (crSum S) (stSum Q) (M.cx A.in1.in1) (a, gob) fpY tnY [S] σ0) n (.send .none) (s.setGen g .running) →
    codeAny (model X.prog X.w) A (.builtin "sum.loop" ⟨[.ref a, .ref S, rawInt st, rawInt 0], []⟩) R s := by
  have same : ∀ {acc acc' : Int} {t : Tok} {c : Nat} {h : Heap}, h.get? S = some (lstO #[.int acc t] c) → crSum S acc' h → acc' = acc := fun {acc acc' t c h} e ⟨t', c', e'⟩ => by
    rw [e] at e'
    cases e'
    rfl
  intro n
  induction n with
  | zero =>
    intro s gs acc t c st hst hG hl hgs eS hgo
    refine codeAny_builtin F.entry_sum_loop ?_
    rw [Around.under_plainId F.plain_sum_loop _]
    show wpAny _ A.in1 (seqItems? (.ref S) >>= _) _ _ s
    refine wpAny_bind (wpAny_seqItems eS rfl ?_)
    show wpAny _ A.in1 (tryCatch (pyNext (.ref a)) _ >>= _) _ _ s
    refine wpAny_bind (wpAny_tryCatch (M.next (A := A.in1) hh hdp hG hl hgs hgo (fun v s1 gs' i x acc' H Nx hb rx st' cr ks sp hsz kap => ?_) (fun s1 h' hp hk => ?_)))
    · obtain ⟨j, rfl, q⟩ := sp
      obtain ⟨eG, nl, bare, _⟩ := gst_get st'
      have e1 : s1.heap.get? S = some (lstO #[.int acc t] c) := by rw [ks S (List.mem_singleton.mpr rfl)]; exact eS
      have e2 := Heap.get?_update_self (Obj.mapSeq fun _ => #[Value.int (acc' + j) 0]) e1 rfl
      obtain ⟨n', hn, _⟩ := kap _ (acc' + j) (slp_upd (g := g) (gs' := .running) (gs2 := .running) (tk := 0) bare rfl rfl e2 (fun v z => by cases z)) ⟨0, _, e2⟩ q
      omega
    · obtain ⟨acc', H, cp, _, I1, cr, ks, q⟩ := hp
      rw [same eS cr] at q
      exact wpAny_pure (hret (.int acc) _ H _ (M.back I1 rfl (allBare_setGen I1.bare rfl) hk) ⟨t, rfl⟩ q)
  | succ n ih =>
    intro s gs acc t c st hst hG hl hgs eS hgo
    refine codeAny_builtin F.entry_sum_loop ?_
    rw [Around.under_plainId F.plain_sum_loop _]
    show wpAny _ A.in1 (seqItems? (.ref S) >>= _) _ _ s
    refine wpAny_bind (wpAny_seqItems eS rfl ?_)
    show wpAny _ A.in1 (tryCatch (pyNext (.ref a)) _ >>= _) _ _ s
    refine wpAny_bind (wpAny_tryCatch (M.next (A := A.in1) hh hdp hG hl hgs hgo (fun v s1 gs' i x acc' H Nx hb rx st' cr ks sp hsz kap => ?_) (fun s1 h' hp hk => ?_)))
    · obtain ⟨j, rfl, q⟩ := sp
      obtain ⟨tj, rfl⟩ := rx
      rw [same eS cr] at q
      obtain ⟨eG, nl, bare, _⟩ := gst_get st'
      have e1 : s1.heap.get? S = some (lstO #[.int acc t] c) := by rw [ks S (List.mem_singleton.mpr rfl)]; exact eS
      have on : ∀ (s2 : Shared) (tk : Tok) (c2 : Nat) (st2 : Int), (st2 = 0 ∨ st2 = 2) → s2.os = s1.os → AllBare s2.gens → s2.gens[g]? = some gs' → (∀ b o, b ≠ S → s1.heap.get? b = some o → s2.heap.get? b = some o) → s2.heap.get? S = some (lstO #[.int (acc + j) tk] c2) →
          codeAny (model X.prog X.w) A (.builtin "sum.loop" ⟨[.ref a, .ref S, rawInt st2, rawInt 0], []⟩) R s2 := fun s2 tk c2 st2 h2 ho hbb hg2 kp e2 => by
        obtain ⟨n', hn, go'⟩ := kap (s2.setGen g .running) (acc + j) ⟨ho, allBare_setGen hbb rfl, fun b o hb e => kp b o (fun z => hb (by rw [z]; exact List.mem_singleton.mpr rfl)) e, fun b hb => by rw [List.mem_singleton.mp hb]; exact ⟨_, e2, fun v z => by cases z⟩⟩ ⟨tk, c2, e2⟩ q
        obtain rfl : n' = n := by omega
        refine ih s2 gs' (acc + j) tk c2 st2 h2 (kp a _ hSa eG) ?_ hg2 e2 go'
        obtain ⟨mc, hns, hnn⟩ := nl
        exact ⟨mc, hns.at' fun o e => kp _ o hSc e, hnn⟩
      rcases hst with rfl | rfl
      · show wpAny _ A.in1 (if (_ : Bool) = true then (mkInt (acc + j) >>= _) else _) _ _ _
        split
        · refine wpAny_bind (wpAny_mkInt ?_)
          show wpAny _ A.in1 (updateSeq S (fun _ => #[.int (acc + j) s1.toks]) >>= _) _ _ _
          refine wpAny_bind ?_
          refine wpAny_updateSeq e1 rfl (wpAny_pure ⟨plainId_quiet F.plain_sum_loop _, ?_⟩)
          exact on _ _ _ 0 (.inl rfl) rfl (allBare_setGen bare hb) (setGen_at hsz) (fun b o hb e => (Heap.get?_update_other _ _ (Ne.symm hb)).trans e) (Heap.get?_update_self _ e1 rfl)
        · refine wpAny_bind (wpAny_rule ?_)
          refine wpAny_bind (wpAny_attempt (wpAny_holding (wpAny_add_int ?_)))
          show wpAny _ A.in1 (updateSeq S (fun _ => #[.int (acc + j) s1.toks]) >>= _) _ _ _
          refine wpAny_bind (wpAny_updateSeq e1 rfl ?_)
          have e2 := Heap.get?_update_self (Obj.mapSeq fun _ => #[Value.int (acc + j) s1.toks]) e1 rfl
          refine wpAny_bind (wpAny_letGo ?_)
          refine wpAny_bind (wpAny_updateSeq e2 rfl (wpAny_pure ⟨plainId_quiet F.plain_sum_loop _, ?_⟩))
          exact on _ _ _ 2 (.inr rfl) rfl (allBare_setGen bare hb) (setGen_at hsz) (fun b o hb e => (Heap.get?_update_other _ _ (Ne.symm hb)).trans ((Heap.get?_update_other _ _ (Ne.symm hb)).trans e)) (Heap.get?_update_self _ e2 rfl)
      · show wpAny _ A.in1 ((holding [Value.int j tj] (binaryOp .Add (.int acc t) (.int j tj))).attempt >>= _) _ _ _
        refine wpAny_bind (wpAny_attempt (wpAny_holding (wpAny_add_int ?_)))
        show wpAny _ A.in1 (updateSeq S (fun _ => #[.int (acc + j) s1.toks]) >>= _) _ _ _
        refine wpAny_bind (wpAny_updateSeq e1 rfl ?_)
        have e2 := Heap.get?_update_self (Obj.mapSeq fun _ => #[Value.int (acc + j) s1.toks]) e1 rfl
        refine wpAny_bind (wpAny_letGo ?_)
        refine wpAny_bind (wpAny_updateSeq e2 rfl (wpAny_pure ⟨plainId_quiet F.plain_sum_loop _, ?_⟩))
        exact on _ _ _ 2 (.inr rfl) rfl (allBare_setGen bare hb) (setGen_at hsz) (fun b o hb e => (Heap.get?_update_other _ _ (Ne.symm hb)).trans ((Heap.get?_update_other _ _ (Ne.symm hb)).trans e)) (Heap.get?_update_self _ e2 rfl)
    · obtain ⟨acc', H, cp, _, I1, cr, ks, q⟩ := hp
      rw [same eS cr] at q
      exact wpAny_pure (hret (.int acc) _ H _ (M.back I1 rfl (allBare_setGen I1.bare rfl) hk) ⟨t, rfl⟩ q)
end
end GX

namespace GX
open PySem PySem.Spec PyProof.Rows L2 GenW
def tGx {α : Type} (a0 : α) (Stp : VK → Stps α) (Fin : VK → α → Hp → Prop) (tc : TC) (ti : TI) (g : TG) (tt : TT) (te : Value → TE) (vs : List Nat) : TE := fun σ H Q => ti σ H fun J H1 => tc σ H1 fun code H2 => ∃ W : Nat → Nat → α → Hp → Prop, (∃ m, W 0 m a0 H2) ∧ TurnsR (Stp Q) (Fin Q) J g tt (te code) vs σ W
/-- a rule that holds in the expression's frame, whichever it is -/
abbrev Fam (X : Cx) (k : Nat) (scope : Scope) (Pp : Cx → Value → Prop) : Prop := ∀ (B : Around) (s : Shared) (H : Hp) (code : Value) (fp : List Addr), Room k B → B.guards = X.A.guards → Pp (gcx X B s H scope (gEnv X scope s code) fp) code
def crMax (S : Addr) : Option Int → Heap → Prop
  | none, h => ∃ c, h.get? S = some (lstO #[] c)
  | some m, h => ∃ t c, h.get? S = some (lstO #[.int m t, .int m t] c)
def stMax (Q : VK) : Stps (Option Int) := fun acc y H N => ∃ i, y = .int i ∧ N (some (match acc with | none => i | some j => if j < i then i else j)) H
def stMin (Q : VK) : Stps (Option Int) := fun acc y H N => ∃ i, y = .int i ∧ N (some (match acc with | none => i | some j => if i < j then i else j)) H
def fiMax (Q : VK) : Option Int → Hp → Prop := fun acc H => ∃ m, acc = some m ∧ Q (.int m) H
section
variable {X : Cx} {pins : List (Addr × Obj)} {σ : L2.St} {tg elt iter : Expr} {ifs : List Expr} {more : List Comprehension} {scope : Scope} {gpos : Pos} {own : List (Str × Nat)} {J : It} {code : Value} {H3 : Hp} {s3 : Shared} {it : Addr} {fp : List Addr} {tn : Nat → Heap → Prop} {a : Addr} {g : Nat} {gob : Obj} {s5 : Shared} {fpY : List Addr} {tnY : Nat → Heap → Prop}
theorem crMax_none {S : Addr} {acc : Option Int} {h : Heap} {c : Nat} (e : h.get? S = some (lstO #[] c)) (x : crMax S acc h) : acc = none := by
  cases acc with
  | none => rfl
  | some m =>
    obtain ⟨t, c', e'⟩ := x
    rw [e] at e'
    cases e'
theorem crMax_some {S : Addr} {acc : Option Int} {h : Heap} {c : Nat} {m : Int} {t : Tok} (e : h.get? S = some (lstO #[.int m t, .int m t] c)) (x : crMax S acc h) : acc = some m := by
  cases acc with
  | none =>
    obtain ⟨c', e'⟩ := x
    rw [e] at e'
    cases e'
  | some m' =>
    obtain ⟨t', c', e'⟩ := x
    rw [e] at e'
    cases e'
    rfl
theorem Made.max_loop (M : Made X pins σ tg elt iter ifs more scope gpos own J code H3 s3 it fp tn a g gob s5) {A : Around} {σ0 : L2.St} {R : Result → Shared → Prop} {Q : VK} {S : Addr} (hh : A.handled = none) (hdp : A.depth < recursionLimit) (hSa : a ≠ S) (hSc : cStatics ≠ S) (hS5 : s3.heap.objs.size ≤ S)
    (hret : ∀ v u H s', Inv X pins σ H s' → RelV v u → Q v H → R (.ok (.ret u)) s') : ∀ (n : Nat) (s : Shared) (gs : GenState) (c : Nat), s.heap.get? a = some gob → s.heap.NoLimit → s.gens[g]? = some gs →
    (s.heap.get? S = some (lstO #[] c) ∨ ∃ m t, s.heap.get? S = some (lstO #[.int m t, .int m t] c)) →
    gs.Goes (model X.prog X.w) A.in1.in1 (RG (crMax S) (fiMax Q) (M.cx A.in1.in1) (a, gob) [S] σ0) (YG (crMax S) (stMax Q) (M.cx A.in1.in1) (a, gob) fpY tnY [S] σ0) n (.send .none) (s.setGen g .running) →
    codeAny (model X.prog X.w) A (.builtin "max.loop" ⟨[.ref a, .none, .ref S], []⟩) R s := by
  have hname : (toString "max" ++ toString ".loop" : String) = "max.loop" := by decide
  intro n
  induction n with
  | zero =>
    intro s gs c hG hl hgs eS hgo
    refine codeAny_builtin F.entry_max_loop ?_
    rw [Around.under_plainId F.plain_max_loop _]
    show wpAny _ A.in1 (seqItems? (.ref S) >>= _) _ _ s
    have dead : ∀ {o : Obj} {v : Value} {s1 : Shared} {i : Nat} {x : V} {acc : Option Int} {H : Hp} {Nx : Option Int → Hp → Prop} {gs' : GenState}, (∃ xs c2, o = lstO xs c2) → s1.heap.get? S = some o → GSt (M.cx A.in1.in1) (a, gob) fpY tnY [S] σ0 i H s1 → stMax Q acc x H Nx →
        (∀ s' acc', Slp [S] s1 s' → crMax S acc' s'.heap → Nx acc' H → ∃ n', 0 = n' + 1 ∧ gs'.Goes (model X.prog X.w) A.in1.in1 (RG (crMax S) (fiMax Q) (M.cx A.in1.in1) (a, gob) [S] σ0) (YG (crMax S) (stMax Q) (M.cx A.in1.in1) (a, gob) fpY tnY [S] σ0) n' (.send .none) s') → False := fun {o v s1 i x acc H Nx gs'} ho e1 st' sp kap => by
      obtain ⟨j, rfl, q⟩ := sp
      obtain ⟨xs, c2, rfl⟩ := ho
      obtain ⟨eG, nl, bare, _⟩ := gst_get st'
      generalize (match acc with | none => j | some k => if k < j then j else k) = m' at q
      have e2 := Heap.get?_update_self (Obj.mapSeq fun _ => #[Value.int m' 0, Value.int m' 0]) e1 rfl
      obtain ⟨n', hn, _⟩ := kap _ (some m') (slp_upd (g := g) (gs' := .running) (gs2 := .running) (tk := 0) bare rfl rfl e2 (fun v z => by cases z)) ⟨0, _, e2⟩ q
      omega
    rcases eS with eS | ⟨m, t, eS⟩
    · refine wpAny_bind (wpAny_seqItems eS rfl ?_)
      show wpAny _ A.in1 (tryCatch (pyNext (.ref a)) _ >>= _) _ _ s
      refine wpAny_bind (wpAny_tryCatch (M.next (A := A.in1) hh hdp hG hl hgs hgo (fun v s1 gs' i x acc' H Nx hb rx st' cr ks sp hsz kap => ?_) (fun s1 h' hp hk => ?_)))
      · exact (dead (v := v) ⟨_, _, rfl⟩ (by rw [ks S (List.mem_singleton.mpr rfl)]; exact eS) st' sp kap).elim
      · obtain ⟨acc', H, cp, _, I1, cr, ks, m, em, q⟩ := hp
        have := crMax_none (h := s.heap) eS cr
        rw [this] at em
        cases em
    · refine wpAny_bind (wpAny_seqItems eS rfl ?_)
      show wpAny _ A.in1 (tryCatch (pyNext (.ref a)) _ >>= _) _ _ s
      refine wpAny_bind (wpAny_tryCatch (M.next (A := A.in1) hh hdp hG hl hgs hgo (fun v s1 gs' i x acc' H Nx hb rx st' cr ks sp hsz kap => ?_) (fun s1 h' hp hk => ?_)))
      · exact (dead (v := v) ⟨_, _, rfl⟩ (by rw [ks S (List.mem_singleton.mpr rfl)]; exact eS) st' sp kap).elim
      · obtain ⟨acc', H, cp, ecp, I1, cr, ks, m', em, q⟩ := hp
        have := crMax_some (h := s.heap) eS cr
        rw [this] at em
        cases em
        have e1 : h'.get? S = some (lstO #[.int m t, .int m t] c) := hk _ _ (by rw [ks S (List.mem_singleton.mpr rfl)]; exact eS)
        have nS : H S = none := by
          have hm : S ∈ cp.map (·.1) := by rw [ecp]; exact List.mem_singleton.mpr rfl
          obtain ⟨p, hp, e⟩ := List.mem_map.mp hm
          rw [← e]
          exact (I1.pin p (List.mem_append_right _ (List.mem_cons_of_mem _ hp))).2.1
        show wpAny _ A.in1 (updateSeq S (fun _ => #[]) >>= _) _ _ _
        refine wpAny_bind ?_
        refine wpAny_updateSeq e1 rfl (wpAny_bind (wpAny_letGo (wpAny_pure ?_)))
        have J1 := M.back (s' := { s1.setGen g .finished with heap := h' }) I1 rfl (allBare_setGen I1.bare rfl) hk
        obtain ⟨f0, f1, f2, f3, f4, f5⟩ := M.inv.fpOk hS5 nS
        exact hret (.int m) _ H _ (J1.turned (t' := s1.toks) (fun b o hb e => (Heap.get?_update_other _ _ (Ne.symm hb)).trans e) f0 f1 f3 f4 f5) ⟨t, rfl⟩ q
  | succ n ih =>
    intro s gs c hG hl hgs eS hgo
    refine codeAny_builtin F.entry_max_loop ?_
    rw [Around.under_plainId F.plain_max_loop _]
    show wpAny _ A.in1 (seqItems? (.ref S) >>= _) _ _ s
    rcases eS with eS | ⟨m, t, eS⟩
    · refine wpAny_bind (wpAny_seqItems eS rfl ?_)
      show wpAny _ A.in1 (tryCatch (pyNext (.ref a)) _ >>= _) _ _ s
      refine wpAny_bind (wpAny_tryCatch (M.next (A := A.in1) hh hdp hG hl hgs hgo (fun v s1 gs' i x acc' H Nx hb rx st' cr ks sp hsz kap => ?_) (fun s1 h' hp hk => ?_)))
      · obtain ⟨j, rfl, q⟩ := sp
        obtain ⟨tj, rfl⟩ := rx
        rw [crMax_none (h := s.heap) eS cr] at q
        obtain ⟨eG, nl, bare, _⟩ := gst_get st'
        have e1 : s1.heap.get? S = some (lstO #[] c) := by rw [ks S (List.mem_singleton.mpr rfl)]; exact eS
        show wpAny _ A.in1 (updateSeq S (fun _ => #[.int j tj, .int j tj]) >>= _) _ _ _
        refine wpAny_bind ?_
        refine wpAny_updateSeq e1 rfl ?_
        have e2 := Heap.get?_update_self (Obj.mapSeq fun _ => #[Value.int j tj, Value.int j tj]) e1 rfl
        rw [hname]
        refine wpAny_pure ⟨plainId_quiet F.plain_max_loop _, ?_⟩
        obtain ⟨n', hn, go'⟩ := kap _ (some j) (slp_upd (g := g) (gs' := gs') (gs2 := .running) (tk := s1.toks) bare hb rfl e2 (fun v z => by cases z)) ⟨tj, _, e2⟩ q
        obtain rfl : n' = n := by omega
        refine ih { s1.setGen g gs' with heap := s1.heap.update S (Obj.mapSeq fun _ => #[Value.int j tj, Value.int j tj]) } gs' _ ((Heap.get?_update_other _ _ (Ne.symm hSa)).trans eG) ?_ (setGen_at hsz) (.inr ⟨j, tj, e2⟩) go'
        obtain ⟨mc, hns, hnn⟩ := nl
        exact ⟨mc, hns.at' fun o e => (Heap.get?_update_other _ _ (Ne.symm hSc)).trans e, hnn⟩
      · obtain ⟨acc', H, cp, _, I1, cr, ks, m, em, q⟩ := hp
        have := crMax_none (h := s.heap) eS cr
        rw [this] at em
        cases em
    · refine wpAny_bind (wpAny_seqItems eS rfl ?_)
      show wpAny _ A.in1 (tryCatch (pyNext (.ref a)) _ >>= _) _ _ s
      refine wpAny_bind (wpAny_tryCatch (M.next (A := A.in1) hh hdp hG hl hgs hgo (fun v s1 gs' i x acc' H Nx hb rx st' cr ks sp hsz kap => ?_) (fun s1 h' hp hk => ?_)))
      · obtain ⟨j, rfl, q⟩ := sp
        obtain ⟨tj, rfl⟩ := rx
        rw [crMax_some (h := s.heap) eS cr] at q
        obtain ⟨eG, nl, bare, _⟩ := gst_get st'
        have e1 : s1.heap.get? S = some (lstO #[.int m t, .int m t] c) := by rw [ks S (List.mem_singleton.mpr rfl)]; exact eS
        show wpAny _ A.in1 (tryCatch (holding [.int j tj, .int j tj] (richCompare .Gt (.int j tj) (.int m t) >>= _)) _ >>= _) _ _ _
        refine wpAny_bind (wpAny_tryCatch (wpAny_holding (wpAny_bind (P.gt_int ?_))))
        refine wpAny_bind (wpAny_holding (wpAny_truthy_bool ?_))
        refine wpAny_bind (wpAny_letGo (wpAny_pure ?_))
        by_cases hb' : m < j
        · rw [decide_eq_true hb']
          simp only [if_true]
          have q : Nx (some j) H := by
            have z : Nx (some (if m < j then j else m)) H := q
            rw [if_pos hb'] at z
            exact z
          refine wpAny_bind ?_
          refine wpAny_updateSeq e1 rfl (wpAny_bind (wpAny_letGo ?_))
          have e2 := Heap.get?_update_self (Obj.mapSeq fun _ => #[Value.int j tj, Value.int j tj]) e1 rfl
          rw [hname]
          refine wpAny_pure ⟨plainId_quiet F.plain_max_loop _, ?_⟩
          obtain ⟨n', hn, go'⟩ := kap _ (some j) (slp_upd (g := g) (gs' := gs') (gs2 := .running) (tk := s1.toks) bare hb rfl e2 (fun v z => by cases z)) ⟨tj, _, e2⟩ q
          obtain rfl : n' = n := by omega
          refine ih { s1.setGen g gs' with heap := s1.heap.update S (Obj.mapSeq fun _ => #[Value.int j tj, Value.int j tj]) } gs' _ ((Heap.get?_update_other _ _ (Ne.symm hSa)).trans eG) ?_ (setGen_at hsz) (.inr ⟨j, tj, e2⟩) go'
          obtain ⟨mc, hns, hnn⟩ := nl
          exact ⟨mc, hns.at' fun o e => (Heap.get?_update_other _ _ (Ne.symm hSc)).trans e, hnn⟩
        · rw [decide_eq_false hb']
          simp only [Bool.false_eq_true, if_false]
          have q : Nx (some m) H := by
            have z : Nx (some (if m < j then j else m)) H := q
            rw [if_neg hb'] at z
            exact z
          refine wpAny_bind (wpAny_letGo ?_)
          rw [hname]
          refine wpAny_pure ⟨plainId_quiet F.plain_max_loop _, ?_⟩
          obtain ⟨n', hn, go'⟩ := kap ((s1.setGen g gs').setGen g .running) (some m) ⟨rfl, allBare_setGen (s := s1.setGen g gs') (allBare_setGen bare hb) rfl, fun _ _ _ e => e, fun b hb => by rw [List.mem_singleton.mp hb]; exact ⟨_, e1, fun v z => by cases z⟩⟩ ⟨t, _, e1⟩ q
          obtain rfl : n' = n := by omega
          exact ih _ gs' _ eG nl (setGen_at hsz) (.inr ⟨m, t, e1⟩) go'
      · obtain ⟨acc', H, cp, ecp, I1, cr, ks, m', em, q⟩ := hp
        have := crMax_some (h := s.heap) eS cr
        rw [this] at em
        cases em
        have e1 : h'.get? S = some (lstO #[.int m t, .int m t] c) := hk _ _ (by rw [ks S (List.mem_singleton.mpr rfl)]; exact eS)
        have nS : H S = none := by
          have hm : S ∈ cp.map (·.1) := by rw [ecp]; exact List.mem_singleton.mpr rfl
          obtain ⟨p, hp, e⟩ := List.mem_map.mp hm
          rw [← e]
          exact (I1.pin p (List.mem_append_right _ (List.mem_cons_of_mem _ hp))).2.1
        show wpAny _ A.in1 (updateSeq S (fun _ => #[]) >>= _) _ _ _
        refine wpAny_bind ?_
        refine wpAny_updateSeq e1 rfl (wpAny_bind (wpAny_letGo (wpAny_pure ?_)))
        have J1 := M.back (s' := { s1.setGen g .finished with heap := h' }) I1 rfl (allBare_setGen I1.bare rfl) hk
        obtain ⟨f0, f1, f2, f3, f4, f5⟩ := M.inv.fpOk hS5 nS
        exact hret (.int m) _ H _ (J1.turned (t' := s1.toks) (fun b o hb e => (Heap.get?_update_other _ _ (Ne.symm hb)).trans e) f0 f1 f3 f4 f5) ⟨t, rfl⟩ q
end
end GX

namespace GX
open PySem PySem.Spec PyProof.Rows L2 GenW
section
variable {X : Cx} {tg elt iter : Expr} {ifs : List Expr} {scope : Scope} {gpos p pos : Pos} {own : List (Str × Nat)} {ti : TI} {tc : TC} {P0 : Addr} {k : Nat} {g' : TG} {tt : TT} {te : Value → TE}
theorem room_in {A : Around} (r : Room (k + 3) A) (e : Env) : Room k (A.in1.in1.deeper e) := ⟨r.hd, by have := r.dp; show A.depth + 1 + 3 * k + 5 < _; omega, by have := r.un; show A.units + 1 + 1 + 3 + 16 * k + 200 < _; omega⟩
theorem pe_allX (hr : Room (k + 3) X.A) (hN : X.N.Nodup) (glob : Gl X "all") (free : X.mg "all" = none) (BA : X.base.BuiltinsAt X.mg P0) (hi : PI X tg iter ti) (hpc : PC X gpos scope tc) (ok : GOk X.N X.env.scope scope own)
    (hg : Fam X k scope fun Y _ => PG Y tg g') (ht : Fam X k scope fun Y _ => PTs Y ifs tt) (he : Fam X k scope fun Y code => PE Y elt (te code)) (hs : ∀ v, genFold iter X.env v = pure v := by intro _; rfl)
    (one : starEach [.GeneratorExp elt [⟨tg, iter, ifs, 0⟩] scope gpos] X.env = [(false, eval (.GeneratorExp elt [⟨tg, iter, ifs, 0⟩] scope gpos) X.env)] := by rfl) :
    PE X (.Call (.Name "all" p) [.GeneratorExp elt [⟨tg, iter, ifs, 0⟩] scope gpos] [] pos) (tGx () stAll fiAll tc ti g' tt te (own.map (·.2))) := by
  constructor
  intro pins s σ H Q I h
  refine wpAny_Call_Name_kw (ld_blt I glob free (show bootBuiltins "all" = some (.builtin "all") by decide +kernel) (callWith_builtin1 ?_ one (by rfl)) (by decide) (by decide))
  rw [one]
  refine Calls.spliced_cons (gx_eval I hN hr hi hpc BA ok hs h fun J code H3 s3 it fp tn a g gob s5 want M => Calls.spliced_nil ?_)
  obtain ⟨W, ⟨m0, w0⟩, turn⟩ := want
  have hd : X.A.depth < recursionLimit := by have := hr.dp; omega
  have hB := M.bok (A := X.A.in1.in1) hr.hd I.ok.frames
  have I5 := M.sub _ hB
  have rm := room_in hr (gEnv X scope s3 code)
  refine call_function_tree F.kind_all F.plain_all F.entry_all (F.args_all1 _) ?_
  unfold Builtin.«all»
  refine wpAny_bind (m := oneArg "all" _) (wpAny_pure ?_)
  refine wpAny_bind (wpAny_pyIter_gen (M.isGen M.get) ?_)
  refine wpAny_pure ⟨plainId_quiet F.plain_all_loop _, M.all_loop (fpY := fp) (tnY := tn) (σ0 := wipe σ (own.map (·.2))) hr.hd hd (fun v u H s' I' r q => ⟨v, H, I', r, q⟩) (m0 + 1) s5 _ M.get I5.nolimit M.gen ?_⟩
  refine ⟨rfl, ?_⟩
  exact M.wake (A := X.A.in1.in1) (s2 := s5.setGen g .running) ok.co hr.hd I.ok.frames (hg _ _ _ _ _ rm rfl) (ht _ _ _ _ _ rm rfl) (he _ _ _ _ _ rm rfl) turn w0 (Nat.lt_succ_self _) rfl (allBare_setGen I5.bare rfl) (fun _ _ e => e) (fun _ h => nomatch h) trivial
theorem pe_anyX (hr : Room (k + 3) X.A) (hN : X.N.Nodup) (glob : Gl X "any") (free : X.mg "any" = none) (BA : X.base.BuiltinsAt X.mg P0) (hi : PI X tg iter ti) (hpc : PC X gpos scope tc) (ok : GOk X.N X.env.scope scope own)
    (hg : Fam X k scope fun Y _ => PG Y tg g') (ht : Fam X k scope fun Y _ => PTs Y ifs tt) (he : Fam X k scope fun Y code => PE Y elt (te code)) (hs : ∀ v, genFold iter X.env v = pure v := by intro _; rfl)
    (one : starEach [.GeneratorExp elt [⟨tg, iter, ifs, 0⟩] scope gpos] X.env = [(false, eval (.GeneratorExp elt [⟨tg, iter, ifs, 0⟩] scope gpos) X.env)] := by rfl) :
    PE X (.Call (.Name "any" p) [.GeneratorExp elt [⟨tg, iter, ifs, 0⟩] scope gpos] [] pos) (tGx () stAny fiAny tc ti g' tt te (own.map (·.2))) := by
  constructor
  intro pins s σ H Q I h
  refine wpAny_Call_Name_kw (ld_blt I glob free (show bootBuiltins "any" = some (.builtin "any") by decide +kernel) (callWith_builtin1 ?_ one (by rfl)) (by decide) (by decide))
  rw [one]
  refine Calls.spliced_cons (gx_eval I hN hr hi hpc BA ok hs h fun J code H3 s3 it fp tn a g gob s5 want M => Calls.spliced_nil ?_)
  obtain ⟨W, ⟨m0, w0⟩, turn⟩ := want
  have hd : X.A.depth < recursionLimit := by have := hr.dp; omega
  have hB := M.bok (A := X.A.in1.in1) hr.hd I.ok.frames
  have I5 := M.sub _ hB
  have rm := room_in hr (gEnv X scope s3 code)
  refine call_function_tree F.kind_any F.plain_any F.entry_any (F.args_any1 _) ?_
  unfold Builtin.«any»
  refine wpAny_bind (m := oneArg "any" _) (wpAny_pure ?_)
  refine wpAny_bind (wpAny_pyIter_gen (M.isGen M.get) ?_)
  refine wpAny_pure ⟨plainId_quiet F.plain_any_loop _, M.any_loop (fpY := fp) (tnY := tn) (σ0 := wipe σ (own.map (·.2))) hr.hd hd (fun v u H s' I' r q => ⟨v, H, I', r, q⟩) (m0 + 1) s5 _ M.get I5.nolimit M.gen ?_⟩
  refine ⟨rfl, ?_⟩
  exact M.wake (A := X.A.in1.in1) (s2 := s5.setGen g .running) ok.co hr.hd I.ok.frames (hg _ _ _ _ _ rm rfl) (ht _ _ _ _ _ rm rfl) (he _ _ _ _ _ rm rfl) turn w0 (Nat.lt_succ_self _) rfl (allBare_setGen I5.bare rfl) (fun _ _ e => e) (fun _ h => nomatch h) trivial
theorem pe_sumX (hr : Room (k + 3) X.A) (hN : X.N.Nodup) (glob : Gl X "sum") (free : X.mg "sum" = none) (BA : X.base.BuiltinsAt X.mg P0) (hi : PI X tg iter ti) (hpc : PC X gpos scope tc) (ok : GOk X.N X.env.scope scope own)
    (hg : Fam X k scope fun Y _ => PG Y tg g') (ht : Fam X k scope fun Y _ => PTs Y ifs tt) (he : Fam X k scope fun Y code => PE Y elt (te code)) (hs : ∀ v, genFold iter X.env v = pure v := by intro _; rfl)
    (one : starEach [.GeneratorExp elt [⟨tg, iter, ifs, 0⟩] scope gpos] X.env = [(false, eval (.GeneratorExp elt [⟨tg, iter, ifs, 0⟩] scope gpos) X.env)] := by rfl) :
    PE X (.Call (.Name "sum" p) [.GeneratorExp elt [⟨tg, iter, ifs, 0⟩] scope gpos] [] pos) (tGx 0 stSum fiSum tc ti g' tt te (own.map (·.2))) := by
  constructor
  intro pins s σ H Q I h
  refine wpAny_Call_Name_kw (ld_blt I glob free (show bootBuiltins "sum" = some (.builtin "sum") by decide +kernel) (callWith_builtin1 ?_ one (by rfl)) (by decide) (by decide))
  rw [one]
  refine Calls.spliced_cons (gx_eval I hN hr hi hpc BA ok hs h fun J code H3 s3 it fp tn a g gob s5 want M => Calls.spliced_nil ?_)
  obtain ⟨W, ⟨m0, w0⟩, turn⟩ := want
  have hd : X.A.depth < recursionLimit := by have := hr.dp; omega
  have hB := M.bok (A := X.A.in1.in1) hr.hd I.ok.frames
  have I5 := M.sub _ hB
  have rm := room_in hr (gEnv X scope s3 code)
  have hSc : cStatics < s5.heap.objs.size := let ⟨_, hn, _⟩ := I5.nolimit; hn.lt
  refine call_function_tree F.kind_sum F.plain_sum F.entry_sum (F.args_sum1 _) ?_
  unfold Builtin.«sum»
  simp only [List.length_cons, List.length_nil]
  rw [if_neg (by decide)]
  refine wpAny_bind (wpAny_of_eq (show Builtin.Builtins.bindParams "sum" ["start"] 0 { } = pure [none] from rfl) ?_)
  refine wpAny_bind (wpAny_pyIter_gen (M.isGen M.get) ?_)
  refine wpAny_bind (wpAny_mkInt ?_)
  refine wpAny_bind (wpAny_pure ?_)
  simp only [List.forIn_cons, List.forIn_nil]
  refine wpAny_bind (wpAny_bind (wpAny_bind (wpAny_isInstance (T := "int") (b := false) (typeIs_int _ _ _) PySem.sub_int_str ?_)))
  simp only [Bool.false_eq_true, if_false]
  refine wpAny_pure (wpAny_bind (wpAny_bind (wpAny_isInstance (T := "int") (b := false) (typeIs_int _ _ _) PySem.sub_int_bytes ?_)))
  simp only [Bool.false_eq_true, if_false]
  refine wpAny_pure (wpAny_bind (wpAny_bind (wpAny_isInstance (T := "int") (b := false) (typeIs_int _ _ _) PySem.sub_int_bytearray ?_)))
  simp only [Bool.false_eq_true, if_false]
  refine wpAny_pure (wpAny_pure ?_)
  refine wpAny_bind (wpAny_newObj_type ?_)
  have eS : ({ s5 with heap := s5.heap.push { cls := .type "list", data := .seq #[Value.int 0 s5.toks] }, toks := s5.toks + 1 } : Shared).heap.get? s5.heap.objs.size = some (lstO #[.int 0 s5.toks] 0) := Heap.get?_push_size _ rfl
  have kp : ∀ b o, s5.heap.get? b = some o → (s5.heap.push { cls := .type "list", data := .seq #[Value.int 0 s5.toks] }).get? b = some o := fun b o e => Heap.get?_push_of_some _ e
  have al : a < s5.heap.objs.size := Heap.lt_size M.get
  refine wpAny_pure ⟨plainId_quiet F.plain_sum_loop _, M.sum_loop (fpY := fp) (tnY := tn) (σ0 := wipe σ (own.map (·.2))) hr.hd hd (Nat.ne_of_lt al) (Nat.ne_of_lt hSc) (fun v u H s' I' r q => ⟨v, H, I', r, q⟩) (m0 + 1) _ _ 0 _ 0 0 (.inl rfl) (kp _ _ M.get) (I5.nolimit.keeps kp) M.gen eS ?_⟩
  refine ⟨rfl, ?_⟩
  refine M.wake (A := X.A.in1.in1) ok.co hr.hd I.ok.frames (hg _ _ _ _ _ rm rfl) (ht _ _ _ _ _ rm rfl) (he _ _ _ _ _ rm rfl) turn w0 (Nat.lt_succ_self _) rfl (allBare_setGen (s := { s5 with heap := _, toks := _ }) I5.bare rfl) kp (fun b hb => ?_) ⟨_, _, eS⟩
  rw [List.mem_singleton.mp hb]
  exact ⟨Nat.le_refl _, _, eS, fun v z => by cases z⟩
theorem pe_maxX (hr : Room (k + 3) X.A) (hN : X.N.Nodup) (glob : Gl X "max") (free : X.mg "max" = none) (BA : X.base.BuiltinsAt X.mg P0) (hi : PI X tg iter ti) (hpc : PC X gpos scope tc) (ok : GOk X.N X.env.scope scope own)
    (hg : Fam X k scope fun Y _ => PG Y tg g') (ht : Fam X k scope fun Y _ => PTs Y ifs tt) (he : Fam X k scope fun Y code => PE Y elt (te code)) (hs : ∀ v, genFold iter X.env v = pure v := by intro _; rfl)
    (one : starEach [.GeneratorExp elt [⟨tg, iter, ifs, 0⟩] scope gpos] X.env = [(false, eval (.GeneratorExp elt [⟨tg, iter, ifs, 0⟩] scope gpos) X.env)] := by rfl) :
    PE X (.Call (.Name "max" p) [.GeneratorExp elt [⟨tg, iter, ifs, 0⟩] scope gpos] [] pos) (tGx none stMax fiMax tc ti g' tt te (own.map (·.2))) := by
  constructor
  intro pins s σ H Q I h
  have hname : (toString "max" ++ toString ".loop" : String) = "max.loop" := by decide
  refine wpAny_Call_Name_kw (ld_blt I glob free (show bootBuiltins "max" = some (.builtin "max") by decide +kernel) (callWith_builtin1 ?_ one (by rfl)) (by decide) (by decide))
  rw [one]
  refine Calls.spliced_cons (gx_eval I hN hr hi hpc BA ok hs h fun J code H3 s3 it fp tn a g gob s5 want M => Calls.spliced_nil ?_)
  obtain ⟨W, ⟨m0, w0⟩, turn⟩ := want
  have hd : X.A.depth < recursionLimit := by have := hr.dp; omega
  have hB := M.bok (A := X.A.in1.in1) hr.hd I.ok.frames
  have I5 := M.sub _ hB
  have rm := room_in hr (gEnv X scope s3 code)
  have hSc : cStatics < s5.heap.objs.size := let ⟨_, hn, _⟩ := I5.nolimit; hn.lt
  refine call_function_tree F.kind_max F.plain_max F.entry_max (F.args_max1 _) ?_
  show wpAny _ X.A.in1 (Builtin.Builtins.bindParams "max" ["key", "default"] 0 ⟨[], []⟩ >>= _) _ _ _
  refine wpAny_bind (wpAny_of_eq (show Builtin.Builtins.bindParams "max" ["key", "default"] 0 ⟨[], []⟩ = pure [none, none] from rfl) ?_)
  refine wpAny_bind (wpAny_pure ?_)
  refine wpAny_bind (wpAny_pyIter_gen (M.isGen M.get) ?_)
  refine wpAny_bind (wpAny_newObj_type ?_)
  have eS : ({ s5 with heap := s5.heap.push { cls := .type "list", data := .seq #[] } } : Shared).heap.get? s5.heap.objs.size = some (lstO #[] 0) := Heap.get?_push_size _ rfl
  have kp : ∀ b o, s5.heap.get? b = some o → (s5.heap.push { cls := .type "list", data := .seq #[] }).get? b = some o := fun b o e => Heap.get?_push_of_some _ e
  have al : a < s5.heap.objs.size := Heap.lt_size M.get
  rw [hname]
  refine wpAny_pure ⟨plainId_quiet F.plain_max_loop _, M.max_loop (fpY := fp) (tnY := tn) (σ0 := wipe σ (own.map (·.2))) hr.hd hd (Nat.ne_of_lt al) (Nat.ne_of_lt hSc) I5.sz (fun v u H s' I' r q => ⟨v, H, I', r, q⟩) (m0 + 1) _ _ 0 (kp _ _ M.get) (I5.nolimit.keeps kp) M.gen (.inl eS) ?_⟩
  refine ⟨rfl, ?_⟩
  refine M.wake (A := X.A.in1.in1) ok.co hr.hd I.ok.frames (hg _ _ _ _ _ rm rfl) (ht _ _ _ _ _ rm rfl) (he _ _ _ _ _ rm rfl) turn w0 (Nat.lt_succ_self _) rfl (allBare_setGen (s := { s5 with heap := _ }) I5.bare rfl) kp (fun b hb => ?_) ⟨_, eS⟩
  rw [List.mem_singleton.mp hb]
  exact ⟨Nat.le_refl _, _, eS, fun v z => by cases z⟩
end
end GX

namespace GX
open PySem PySem.Spec PyProof.Rows L2 GenW
section
variable {J : It} {n : Nat} {G : Hp → Prop} {Y : Nat → Hp → V → Hp → Prop} {g : TG} {tt : TT} {te : TE} {vs : List Nat} {σ : L2.St} {Q : VK} {H2 : Hp}
theorem turns_all (w : Walk J n G Y) (fb : Nat → Bool) (Iv : Hp → Prop) (h0 : Iv H2) (hG : ∀ H, Iv H → G H)
    (turn : ∀ i x H H' (Kt : V → Hp → Prop) (Kn : Hp → Prop), i < n → Iv H → Y i H x H' → (∀ H4, Iv H4 → Kt (.bl (fb i)) H4) → (fb i = true → ∀ H4, Iv H4 → Kn H4) → g x (wipe σ vs) H' fun σ2 H2 => wipe σ2 vs = wipe σ vs ∧ tt σ2 H2 fun b H3 => if b = true then te σ2 H3 Kt else Kn H3)
    (fin : ∀ H b, Iv H → (b = true ↔ ∀ i, i < n → fb i = true) → Q (.bl b) H) : ∃ W : Nat → Nat → Unit → Hp → Prop, (∃ m, W 0 m () H2) ∧ TurnsR (stAll Q) (fiAll Q) J g tt te vs σ W := by
  refine ⟨fun i m _ H => m = n - i ∧ i ≤ n ∧ Iv H ∧ ∀ j, j < i → fb j = true, ⟨n, by simp, Nat.zero_le _, h0, fun j h => absurd h (Nat.not_lt_zero _)⟩, ?_⟩
  rintro i m _ H ⟨rfl, hi, iv, al⟩
  have q := hG H iv
  by_cases hlt : i < n
  · refine .inr ⟨w.goes i H hlt q, fun _ H' => Iv H' ∧ fb i = true, fun _ H' ⟨z1, z2⟩ => ⟨n - (i + 1), by omega, rfl, hlt, z1, fun j hj => ?_⟩, fun x H' y => turn i x H H' _ _ hlt iv (w.yields i H x H' hlt q y) (fun H4 iv4 => ⟨fb i, rfl, ?_⟩) (fun e H4 iv4 => ⟨iv4, e⟩)⟩
    · by_cases e : j = i
      · rw [e]; exact z2
      · exact al j (by omega)
    · cases e : fb i with
      | true => rw [if_pos rfl]; exact ⟨iv4, rfl⟩
      | false =>
        rw [if_neg Bool.false_ne_true]
        refine fin H4 false iv4 ⟨(fun z => nomatch z), fun z => ?_⟩
        rw [z i hlt] at e
        cases e
  · have e : i = n := by omega
    subst e
    exact .inl ⟨w.stops H q, fin H true iv ⟨fun _ j hj => al j hj, fun _ => rfl⟩⟩
theorem turns_any (w : Walk J n G Y) (fb : Nat → Bool) (Iv : Hp → Prop) (h0 : Iv H2) (hG : ∀ H, Iv H → G H)
    (turn : ∀ i x H H' (Kt : V → Hp → Prop) (Kn : Hp → Prop), i < n → Iv H → Y i H x H' → (∀ H4, Iv H4 → Kt (.bl (fb i)) H4) → (fb i = false → ∀ H4, Iv H4 → Kn H4) → g x (wipe σ vs) H' fun σ2 H2 => wipe σ2 vs = wipe σ vs ∧ tt σ2 H2 fun b H3 => if b = true then te σ2 H3 Kt else Kn H3)
    (fin : ∀ H b, Iv H → (b = true ↔ ∃ i, i < n ∧ fb i = true) → Q (.bl b) H) : ∃ W : Nat → Nat → Unit → Hp → Prop, (∃ m, W 0 m () H2) ∧ TurnsR (stAny Q) (fiAny Q) J g tt te vs σ W := by
  refine ⟨fun i m _ H => m = n - i ∧ i ≤ n ∧ Iv H ∧ ∀ j, j < i → fb j = false, ⟨n, by simp, Nat.zero_le _, h0, fun j h => absurd h (Nat.not_lt_zero _)⟩, ?_⟩
  rintro i m _ H ⟨rfl, hi, iv, al⟩
  have q := hG H iv
  by_cases hlt : i < n
  · refine .inr ⟨w.goes i H hlt q, fun _ H' => Iv H' ∧ fb i = false, fun _ H' ⟨z1, z2⟩ => ⟨n - (i + 1), by omega, rfl, hlt, z1, fun j hj => ?_⟩, fun x H' y => turn i x H H' _ _ hlt iv (w.yields i H x H' hlt q y) (fun H4 iv4 => ⟨fb i, rfl, ?_⟩) (fun e H4 iv4 => ⟨iv4, e⟩)⟩
    · by_cases e : j = i
      · rw [e]; exact z2
      · exact al j (by omega)
    · cases e : fb i with
      | true => rw [if_pos rfl]; exact fin H4 true iv4 ⟨fun _ => ⟨i, hlt, e⟩, fun _ => rfl⟩
      | false => rw [if_neg Bool.false_ne_true]; exact ⟨iv4, rfl⟩
  · have e : i = n := by omega
    subst e
    refine .inl ⟨w.stops H q, fin H false iv ⟨(fun z => nomatch z), fun ⟨j, hj, z⟩ => ?_⟩⟩
    rw [al j hj] at z
    cases z
theorem turns_sum (w : Walk J n G Y) (v : Nat → Int) (Iv : Hp → Prop) (h0 : Iv H2) (hG : ∀ H, Iv H → G H)
    (turn : ∀ i x H H' (Kt : V → Hp → Prop) (Kn : Hp → Prop), i < n → Iv H → Y i H x H' → (∀ H4, Iv H4 → Kt (.int (v i)) H4) → (v i = 0 → ∀ H4, Iv H4 → Kn H4) → g x (wipe σ vs) H' fun σ2 H2 => wipe σ2 vs = wipe σ vs ∧ tt σ2 H2 fun b H3 => if b = true then te σ2 H3 Kt else Kn H3)
    (fin : ∀ H, Iv H → Q (.int (preSum v n)) H) : ∃ W : Nat → Nat → Int → Hp → Prop, (∃ m, W 0 m 0 H2) ∧ TurnsR (stSum Q) (fiSum Q) J g tt te vs σ W := by
  refine ⟨fun i m acc H => m = n - i ∧ i ≤ n ∧ Iv H ∧ acc = preSum v i, ⟨n, by simp, Nat.zero_le _, h0, rfl⟩, ?_⟩
  rintro i m acc H ⟨rfl, hi, iv, rfl⟩
  have q := hG H iv
  by_cases hlt : i < n
  · refine .inr ⟨w.goes i H hlt q, fun acc' H' => Iv H' ∧ acc' = preSum v (i + 1), fun acc' H' ⟨z1, z2⟩ => ⟨n - (i + 1), by omega, rfl, hlt, z1, z2⟩, fun x H' y => turn i x H H' _ _ hlt iv (w.yields i H x H' hlt q y) (fun H4 iv4 => ⟨v i, rfl, iv4, rfl⟩) (fun e H4 iv4 => ⟨iv4, ?_⟩)⟩
    show preSum v i = preSum v i + v i
    omega
  · have e : i = n := by omega
    subst e
    exact .inl ⟨w.stops H q, fin H iv⟩
theorem turns_max (w : Walk J n G Y) (v : Nat → Int) (hn : 0 < n) (Iv : Hp → Prop) (h0 : Iv H2) (hG : ∀ H, Iv H → G H)
    (turn : ∀ i x H H' (Kt : V → Hp → Prop) (Kn : Hp → Prop), i < n → Iv H → Y i H x H' → (∀ H4, Iv H4 → Kt (.int (v i)) H4) → g x (wipe σ vs) H' fun σ2 H2 => wipe σ2 vs = wipe σ vs ∧ tt σ2 H2 fun b H3 => if b = true then te σ2 H3 Kt else Kn H3)
    (fin : ∀ H m, Iv H → (∃ i, i < n ∧ v i = m) → (∀ i, i < n → v i ≤ m) → Q (.int m) H) : ∃ W : Nat → Nat → Option Int → Hp → Prop, (∃ m, W 0 m none H2) ∧ TurnsR (stMax Q) (fiMax Q) J g tt te vs σ W := by
  refine ⟨fun i m acc H => m = n - i ∧ i ≤ n ∧ Iv H ∧ ((i = 0 ∧ acc = none) ∨ ∃ k, acc = some k ∧ (∃ j, j < i ∧ v j = k) ∧ ∀ j, j < i → v j ≤ k), ⟨n, by simp, Nat.zero_le _, h0, .inl ⟨rfl, rfl⟩⟩, ?_⟩
  rintro i m acc H ⟨rfl, hi, iv, hacc⟩
  have q := hG H iv
  by_cases hlt : i < n
  · refine .inr ⟨w.goes i H hlt q, fun acc' H' => Iv H' ∧ ∃ k, acc' = some k ∧ (∃ j, j < i + 1 ∧ v j = k) ∧ ∀ j, j < i + 1 → v j ≤ k, fun acc' H' ⟨z1, z2⟩ => ⟨n - (i + 1), by omega, rfl, hlt, z1, .inr z2⟩, fun x H' y => turn i x H H' _ _ hlt iv (w.yields i H x H' hlt q y) (fun H4 iv4 => ⟨v i, rfl, iv4, ?_⟩)⟩
    rcases hacc with ⟨rfl, rfl⟩ | ⟨k, rfl, ⟨j, hj, ej⟩, al⟩
    · exact ⟨v 0, rfl, ⟨0, by omega, rfl⟩, fun j hj => by
        have e : j = 0 := by omega
        rw [e]
        exact Int.le_refl _⟩
    · refine ⟨_, rfl, ?_, fun j' hj' => ?_⟩
      · by_cases c : k < v i
        · exact ⟨i, by omega, (if_pos c).symm⟩
        · exact ⟨j, by omega, by rw [ej]; exact (if_neg c).symm⟩
      · show v j' ≤ if k < v i then v i else k
        by_cases e : j' = i
        · rw [e]; split <;> omega
        · have := al j' (by omega)
          split <;> omega
  · have e : i = n := by omega
    subst e
    rcases hacc with ⟨e, _⟩ | ⟨k, rfl, hk, al⟩
    · omega
    · exact .inl ⟨w.stops H q, k, rfl, fin H k iv hk al⟩
end
end GX

/-! ## generator expressions with two fors -/
namespace GX
open PySem PySem.Spec PyProof.Rows L2 GenW
abbrev two (elt tg iter : Expr) (ifs : List Expr) (tg2 iter2 : Expr) (ifs2 : List Expr) (scope : Scope) (gpos : Pos) : Expr := .GeneratorExp elt (⟨tg, iter, ifs, 0⟩ :: [⟨tg2, iter2, ifs2, 0⟩]) scope gpos
section
variable {elt tg iter tg2 iter2 : Expr} {ifs ifs2 : List Expr} {scope : Scope} {gpos : Pos}
theorem compTurn_two (it acc : Value) (env : Env) : compTurn (two elt tg iter ifs tg2 iter2 ifs2 scope gpos) 0 it acc env = (do
      standAt iter.pos
      match ← pyNext it with
      | none => pure (.done .next)
      | some v =>
        letOwnedTupleGo tg it v
        assign tg env v
        let mut ok := true
        for c in ifs do
          if ok then ok ← isTrue c env (eval c env)
        if ok then
          let x ← eval iter2 env
          standAt iter2.pos
          let x ← foldedSetIterable iter2 env x
          let _ ← runOwn (.compStart (two elt tg iter ifs tg2 iter2 ifs2 scope gpos) 1 (← holding [x] (pyIter x)) acc env) env
        again (.compLoop (two elt tg iter ifs tg2 iter2 ifs2 scope gpos) 0 it acc env)) := by rfl
theorem compTurn_two_in (it acc : Value) (env : Env) : compTurn (two elt tg iter ifs tg2 iter2 ifs2 scope gpos) 1 it acc env = (do
      standAt iter2.pos
      match ← pyNext it with
      | none => pure (.done .next)
      | some v =>
        letOwnedTupleGo tg2 it v
        assign tg2 env v
        let mut ok := true
        for c in ifs2 do
          if ok then ok ← isTrue c env (eval c env)
        if ok then
          (do let v ← eval elt env; standAt elt.pos; let _ ← yieldOut env v)
        again (.compLoop (two elt tg iter ifs tg2 iter2 ifs2 scope gpos) 1 it acc env)) := by rfl
theorem over_two {A : Around} {it acc : Value} {env : Env} : A.over (.compLoop (two elt tg iter ifs tg2 iter2 ifs2 scope gpos) 0 it acc env) [] = A.deeper env := by
  first
    | rfl
    | (obtain ⟨hd, d, fr, gs, u⟩ := A; simp [Around.over, Around.deeper, marksOver, frameCount, unitsOf, envsOf, guardsOf, pushEnvs, pushGuards, Code.envs, Code.env?, Code.isFrame, Code.guards, Code.isGuard, Code.weight, Code.frames, Code.isCreation, Code.isCaller, Code.cUnits])
theorem over_two0 {A : Around} {it acc : Value} {env : Env} : A.over (.compStart (two elt tg iter ifs tg2 iter2 ifs2 scope gpos) 0 it acc env) [] = A.deeper env := by
  first
    | rfl
    | (obtain ⟨hd, d, fr, gs, u⟩ := A; simp [Around.over, Around.deeper, marksOver, frameCount, unitsOf, envsOf, guardsOf, pushEnvs, pushGuards, Code.envs, Code.env?, Code.isFrame, Code.guards, Code.isGuard, Code.weight, Code.frames, Code.isCreation, Code.isCaller, Code.cUnits])
theorem over_twoI {A : Around} {it acc it2 acc2 : Value} {env : Env} {k : Result → Sem Fin} {g : Bool} {l kp : List Value} {p : Pos} : A.over (.compLoop (two elt tg iter ifs tg2 iter2 ifs2 scope gpos) 1 it2 acc2 env) [.ret k none g l (.compLoop (two elt tg iter ifs tg2 iter2 ifs2 scope gpos) 0 it acc env) p kp] = A.deeper env := by
  first
    | rfl
    | (obtain ⟨hd, d, fr, gs, u⟩ := A; simp [Around.over, Around.deeper, marksOver, frameCount, unitsOf, envsOf, guardsOf, pushEnvs, pushGuards, Code.envs, Code.env?, Code.isFrame, Code.guards, Code.isGuard, Code.weight, Code.frames, Code.isCreation, Code.isCaller, Code.cUnits])
end
/-- the reading of the turns of two fors -/
def TurnsR2 {α : Type} (Stp : Stps α) (Fin : α → Hp → Prop) (J : It) (g : TG) (tt : TT) (ti2 : TI) (g2 : TG) (tt2 : TT) (te : TE) (vs vs2 : List Nat) (σ : L2.St) (W : Nat → Nat → α → Hp → Prop) : Prop := ∀ i m a H, W i m a H →
  (J.stop i H ∧ Fin a H) ∨ (J.go i H ∧ ∀ x H', J.yld i H x H' → g x (wipe σ vs) H' fun σ2 H2 => wipe σ2 vs = wipe σ vs ∧ tt σ2 H2 fun b H3 =>
    if b = true then ti2 σ2 H3 fun J2 H4 => ∃ W2 : Nat → Nat → α → Hp → Prop, (∃ m1, m1 < m ∧ W2 0 m1 a H4) ∧ ∀ j m1 a1 H5, W2 j m1 a1 H5 →
      (J2.stop j H5 ∧ ∃ m', m' < m1 ∧ W (i + 1) m' a1 H5) ∨ (J2.go j H5 ∧ ∃ Nx : α → Hp → Prop, (∀ a' H', Nx a' H' → ∃ m', m' < m1 ∧ W2 (j + 1) m' a' H') ∧ ∀ y H6, J2.yld j H5 y H6 → g2 y (wipe σ2 vs2) H6 fun σ3 H7 => wipe σ3 vs2 = wipe σ2 vs2 ∧ tt2 σ3 H7 fun b2 H8 =>
        if b2 = true then te σ3 H8 fun z H9 => Stp a1 z H9 Nx else Nx a1 H8)
    else ∃ m', m' < m ∧ W (i + 1) m' a H3)
section
variable {α : Type} {CRel : α → Heap → Prop} {Stp : Stps α} {Fin : α → Hp → Prop} {Xg : Cx} {gp : Addr × Obj} {fp : List Addr} {tn : Nat → Heap → Prop} {Ss : List Addr} {σ : L2.St}
theorem GSt.wokenK {fp : List Addr} {tn : Nat → Heap → Prop} {σ0 : L2.St} {i : Nat} {H : Hp} {s s' : Shared} (hk : ∀ i h h', tn i h → (∀ b ∈ fp, ∀ o, h.get? b = some o → h'.get? b = some o) → tn i h') (hS : SsOk Xg gp fp Ss) (h : GSt Xg gp fp tn Ss σ0 i H s) (z : Slp Ss s s') : GSt Xg gp fp tn Ss σ0 i H s' := by
  obtain ⟨cp, ecp, I, st, nf⟩ := h
  have free : ∀ b ∈ Ss, H b = none ∧ b ∉ Xg.fs := fun b hb => by
    rw [← ecp] at hb
    obtain ⟨p, hp, rfl⟩ := List.mem_map.mp hb
    obtain ⟨_, h2, _, h4, _⟩ := I.pin p (List.mem_append_right _ (List.mem_cons_of_mem _ hp))
    exact ⟨h2, h4⟩
  obtain ⟨z1, z2, z3, z4⟩ := z
  obtain ⟨hh, g, d, t, o⟩ := s'
  have ho : o = s.os := z1
  subst ho
  have I0 : Inv Xg [gp] σ0 H s := I.pins_of fun p hp => I.pin p (List.mem_append_right _ (by rw [List.mem_singleton.mp hp]; exact List.mem_cons_self ..))
  have nt : ∀ b u, H b = some u → b ∉ Ss := fun b u q hb => by rw [(free b hb).1] at q; cases q
  have J : Inv Xg [gp] σ0 H { s with heap := hh, gens := g, drawn := d, toks := t } := by
    refine I0.step (g' := g) (t' := t) (d' := d) (ch := Ss) (fun b hb => ?_) (fun b ob _ _ hc q _ => z3 b ob hc q) (fun b ob _ _ hc q _ => ⟨ob.slots, z3 b ob hc q⟩) (fun _ _ _ _ n => n) (fun b ob hc q => ⟨ob, z3 b ob hc q⟩)
      (fun _ _ q => q) (fun _ _ _ q => q) (fun b ps q => ⟨#[], by rw [q]; simp⟩) (fun m hm => ?_) (fun b u q => ?_) z2
    · obtain ⟨a1, a2, a3, a4, a5⟩ := hS.all b hb
      refine ⟨.inr a1, a2, a3, fun p hp => ?_⟩
      rw [hS.pn] at hp
      rw [List.mem_singleton.mp hp]
      exact Ne.symm a5
    · obtain ⟨ob, es, ep, ho, r⟩ := hm
      exact ⟨ob, es, ep, z3 _ ob (fun q => (hS.all _ q).2.1 rfl) ho, r⟩
    · refine (I0.hok b u q).stay (fun c v hc y => z3 c v ?_ y) (fun _ y => y) fun _ _ y => y
      rcases hc with y | y
      · rw [y]; exact nt b u q
      · exact nt c _ y
  obtain ⟨cp2, e2, k2⟩ := pins_exist Ss hh z4
  refine ⟨cp2, e2, J.pins_of fun p hp => ?_, hk _ _ _ st fun b hb ob e => z3 b ob (fun q => (hS.all b q).2.2.2.1 hb) e, nf⟩
  rcases List.mem_cons.mp hp with hp | hp
  · rw [hp]
    exact J.pin gp (List.mem_append_right _ (List.mem_cons_self ..))
  · have hm : p.1 ∈ Ss := by rw [← e2]; exact List.mem_map_of_mem hp
    exact ⟨(k2 p hp).1, (free _ hm).1, (hS.all _ hm).2.1, (free _ hm).2, (k2 p hp).2⟩
theorem GSt.loose {fp : List Addr} {tn : Nat → Heap → Prop} {σ0 σ1 : L2.St} {i : Nat} {H : Hp} {s : Shared} (h : GSt Xg gp fp tn Ss σ0 i H s) (hl : σ1.length = σ0.length) (w : ∀ (i : Nat) v, σ1[i]? = some (some v) → σ0[i]? = some (some v)) : GSt Xg gp [] (fun _ _ => True) Ss σ1 0 H s :=
  let ⟨cp, ecp, I, _, _⟩ := h
  ⟨cp, ecp, I.weak hl w, True.intro, fun _ z => nomatch z⟩
theorem gx_loop2 {B : Around} {tg elt iter tg2 iter2 : Expr} {ifs ifs2 : List Expr} {scope : Scope} {gpos : Pos} {it : Addr} {J : It} {g : TG} {tt : TT} {ti2 : TI} {g2 : TG} {tt2 : TT} {te : TE} {vs vs2 : List Nat} {W : Nat → Nat → α → Hp → Prop} (hov : B.deeper Xg.env = Xg.A) (hc : Xg.calm = true) (hco : Xg.env.scope.isCoroutine = false) (hxe : Xg.xe = fun _ _ => False)
    (T : Turn Xg.prog Xg.w Xg.K tg J fp it tn) (hfp : ∀ b ∈ fp, ∀ H', H' b = none → FpOk Xg [] H' b) (hS : SsOk Xg gp fp Ss) (hgf : gp.1 ∉ fp) (hg : PG Xg tg g) (ht : PTs Xg ifs tt) (hi2 : PI Xg tg2 iter2 ti2) (hs2 : ∀ v, foldedSetIterable iter2 Xg.env v = pure v) (hg2 : PG Xg tg2 g2) (ht2 : PTs Xg ifs2 tt2) (he : PE Xg elt te) (hvs : ∀ v ∈ vs2, v ∈ vs) (turn : TurnsR2 Stp Fin J g tt ti2 g2 tt2 te vs vs2 σ W) :
    ∀ (m n i : Nat) (acc : α) (H : Hp) (s₀ s : Shared), m < n → W i m acc H → CRel acc s₀.heap → (∀ b ∈ Ss, s.heap.get? b = s₀.heap.get? b) → GSt Xg gp fp tn Ss (wipe σ vs) i H s →
      Seg (model Xg.prog Xg.w) B (RG CRel Fin Xg gp Ss (wipe σ vs)) (YG CRel Stp Xg gp [] (fun _ _ => True) Ss (wipe σ vs)) n s₀ (.compLoop (two elt tg iter ifs tg2 iter2 ifs2 scope gpos) 0 (.ref it) .none Xg.env)
        ((model Xg.prog Xg.w).den (.compLoop (two elt tg iter ifs tg2 iter2 ifs2 scope gpos) 0 (.ref it) .none Xg.env)) [] s := by
  have hover : B.over (.compLoop (two elt tg iter ifs tg2 iter2 ifs2 scope gpos) 0 (.ref it) .none Xg.env) [] = Xg.A := over_two.trans hov
  have hxe' : ∀ {α : Type} {t : Sem α} {Q : α → Shared → Prop} {E : Value → Shared → Prop} {s : Shared}, wpAny (model Xg.prog Xg.w) Xg.A t Q Xg.xe s → wpAny (model Xg.prog Xg.w) Xg.A t Q E s := fun h => wpAny_mono h (fun _ _ z => z) fun _ _ z => by rw [hxe] at z; exact z.elim
  intro m
  induction m using Nat.strongRecOn with
  | ind m ih =>
    intro n i acc H s₀ s hmn w crel ksS hst
    obtain ⟨cp, ecp, I, st, nf⟩ := hst
    have fpOk : ∀ {pins : List (Addr × Obj)} {σ' : L2.St} {H' : Hp} {s' : Shared}, pins.map (·.1) = gp.1 :: Ss → Inv Xg pins σ' H' s' → (∀ b ∈ fp, H' b = none) → ∀ b ∈ fp, FpOk Xg pins H' b := fun {pins σ' H' s'} ep I' hn b hb => by
      obtain ⟨a0, a1, a2, a3, a4, _⟩ := hfp b hb H' (hn b hb)
      refine ⟨a0, a1, a2, a3, a4, fun p hp z => ?_⟩
      rw [hS.pn, List.nil_append] at hp
      have hm : p.1 ∈ gp.1 :: Ss := by rw [← ep]; exact List.mem_map_of_mem hp
      rcases List.mem_cons.mp hm with q | q
      · rw [z] at q; exact hgf (q ▸ hb)
      · rw [z] at q; exact (hS.all b q).2.2.2.1 hb
    have epin : (gp :: cp).map (·.1) = gp.1 :: Ss := by rw [List.map_cons, ecp]
    have ownSs : ∀ {cp extra : List (Addr × Obj)} {σ' σ2' : L2.St} {H' H2' : Hp} {s s' s₀ : Shared}, cp.map (·.1) = Ss → (∀ b ∈ Ss, s.heap.get? b = s₀.heap.get? b) → Inv Xg (gp :: cp) σ2' H2' s → Inv Xg ((gp :: cp) ++ extra) σ' H' s' → ∀ b ∈ Ss, s'.heap.get? b = s₀.heap.get? b := fun {cp extra σ' σ2' H' H2' s s' s₀} ecp ksS I I' b hb => by
      rw [← ksS b hb]
      rw [← ecp] at hb
      obtain ⟨p, hp, rfl⟩ := List.mem_map.mp hb
      rw [(I'.pin p (List.mem_append_right _ (List.mem_append_left _ (List.mem_cons_of_mem _ hp)))).1, (I.pin p (List.mem_append_right _ (List.mem_cons_of_mem _ hp))).1]
    show Seg _ B _ _ _ s₀ _ ((compTurn (two elt tg iter ifs tg2 iter2 ifs2 scope gpos) 0 (.ref it) .none Xg.env).onRaise (leaving Xg.env)) [] s
    rw [compTurn_two, Sem.onRaise_eq_wrap]
    refine seg_bind_wrap (wpAny_standAt ?_)
    rcases turn i m acc H w with ⟨stop, qf⟩ | ⟨go, step⟩
    · refine seg_bind_wrap ?_
      rw [hover]
      refine wpAny_mono (T.done Xg rfl rfl rfl hc i (gp :: cp) s (wipe σ vs) H (fun _ _ => False) I (fpOk epin I nf) st stop) (fun r s1 ⟨hr, I1⟩ => ?_) fun _ _ z => z.elim
      subst hr
      exact seg_end (.ok .next) ⟨rfl, acc, H, cp, ecp, I1, crel, ownSs (extra := []) ecp ksS I (by rw [List.append_nil]; exact I1), qf⟩
    · refine seg_bind_wrap ?_
      rw [hover]
      refine wpAny_mono (T.item Xg rfl rfl rfl hc i (gp :: cp) s (wipe σ vs) H (fun _ _ => False) I (fpOk epin I nf) st go) (fun r s1 ⟨u, hr, h1⟩ => ?_) fun _ _ z => z.elim
      subst hr
      refine seg_bind_wrap ?_
      rw [hover]
      refine wpAny_mono h1 (fun _ s2 ⟨x, H2, I2, rx, y2, st2, n2⟩ => ?_) fun _ _ z => z.elim
      have I2' := I2.pinned (fpOk epin I2 n2) (T.obj _ _ st2)
      refine seg_bind_wrap ?_
      rw [hover]
      refine wpAny_mono (hxe' (hg.run _ s2 (wipe σ vs) H2 x u _ I2' rx (step x H2 y2))) (fun _ s3 ⟨σ3, H3, I3, hw3, q3⟩ => ?_) fun _ _ z => z
      refine seg_bind_wrap ?_
      rw [hover]
      refine wpAny_mono (hxe' (ht.run _ s3 σ3 H3 _ I3 q3)) (fun b s4 ⟨H4, I4, q4⟩ => ?_) fun _ _ z => z
      have hl3 : (wipe σ vs).length = σ3.length := by rw [← hw3, wipe_length]
      have wk3 : ∀ (j : Nat) v, (wipe σ vs)[j]? = some (some v) → (wipe σ3 vs2)[j]? = some (some v) := fun j v e => by
        rw [← hw3] at e
        obtain ⟨e1, e2⟩ := wipe_some e
        rw [wipe_out fun z => e2 (hvs j z)]
        exact e1
      -- the turn's end
      have fin : ∀ {s' : Shared} {H' : Hp}, Inv Xg ((gp :: cp) ++ pinsAt fp s2.heap) σ3 H' s' → GSt Xg gp fp tn Ss (wipe σ vs) (i + 1) H' s' := fun {s' H'} I' => by
        have pin' : ∀ b ∈ fp, ∀ o, s2.heap.get? b = some o → s'.heap.get? b = some o ∧ H' b = none := fun b hb o e =>
          let z := I'.pin (b, o) (List.mem_append_right _ (List.mem_append_right _ (mem_pinsAt hb e)))
          ⟨z.1, z.2.1⟩
        refine ⟨cp, ecp, (I'.unpinned (pins := gp :: cp)).weak hl3 (fun j v e => ?_), T.keep _ _ _ st2 fun b hb o e => (pin' b hb o e).1, fun b hb => ?_⟩
        · rw [← hw3] at e
          exact (wipe_some e).1
        · obtain ⟨o, e, _⟩ := T.obj _ _ st2 b hb
          exact (pin' b hb o e).2
      cases b with
      | false =>
        simp only [Bool.false_eq_true, if_false] at q4 ⊢
        obtain ⟨m', hm, w'⟩ := q4
        exact seg_again rfl (ih m' hm n (i + 1) acc H4 s₀ s4 (by omega) w' crel (ownSs ecp ksS I I4) (fin I4))
      | true =>
        simp only [if_true] at q4 ⊢
        refine seg_bind_wrap ?_
        rw [hover]
        refine wpAny_mono (hxe' (hi2.run _ s4 σ3 H4 _ I4 q4)) (fun xv s5 h5 => ?_) fun _ _ z => z
        refine seg_bind_wrap (wpAny_standAt ?_)
        refine seg_bind_wrap (wpAny_of_eq (hs2 xv) ?_)
        refine seg_bind_wrap (wpAny_holding ?_)
        rw [hover]
        refine wpAny_mono (hxe' h5) (fun itv s6 h6 => ?_) fun _ _ z => z
        obtain ⟨it2, fp2, tn2, J2, H6, e, I6, T2, stB0, f2, W2, ⟨m1, hm1, w1⟩, turn2⟩ := h6
        subst e
        have cpI : ∀ b ∈ fp2, b ≠ gp.1 ∧ b ∉ Ss ∧ b ∉ fp := fun b hb => by
          obtain ⟨_, _, _, _, _, a5⟩ := f2 b hb
          have off : ∀ p ∈ (gp :: cp) ++ pinsAt fp s2.heap, p.1 ≠ b := fun p hp => a5 p (List.mem_append_right _ hp)
          refine ⟨Ne.symm (off gp (List.mem_append_left _ (List.mem_cons_self ..))), fun z => ?_, fun z => ?_⟩
          · rw [← ecp] at z
            obtain ⟨p, hp, e⟩ := List.mem_map.mp z
            exact off p (List.mem_append_left _ (List.mem_cons_of_mem _ hp)) e
          · obtain ⟨o, e, _⟩ := T.obj _ _ st2 b z
            exact off (b, o) (List.mem_append_right _ (mem_pinsAt z e)) rfl
        have hS2 : SsOk Xg gp (fp ++ fp2) Ss := ⟨fun b hb => by
          obtain ⟨a1, a2, a3, a4, a5⟩ := hS.all b hb
          refine ⟨a1, a2, a3, fun z => ?_, a5⟩
          rcases List.mem_append.mp z with y | y
          · exact a4 y
          · exact (cpI b y).2.1 hb, hS.pn⟩
        have fp2Ok : ∀ {cp' : List (Addr × Obj)} {h : Heap} {H' : Hp}, cp'.map (·.1) = Ss → (∀ b ∈ fp2, H' b = none) → ∀ b ∈ fp2, FpOk Xg ((gp :: cp') ++ pinsAt fp h) H' b := fun {cp' h H'} ec hn b hb => by
          obtain ⟨_, a1, a2, a3, a4, _⟩ := f2 b hb
          obtain ⟨n1, n2, n3⟩ := cpI b hb
          refine ⟨hn b hb, a1, a2, a3, a4, fun p hp z => ?_⟩
          rw [hS.pn, List.nil_append] at hp
          rcases List.mem_append.mp hp with q | q
          · rcases List.mem_cons.mp q with y | y
            · rw [y] at z; exact n1 z.symm
            · exact n2 (by rw [← ec, ← z]; exact List.mem_map_of_mem y)
          · exact n3 (z ▸ (of_pinsAt q).1)
        have kp12 : ∀ j (h h' : Heap), (tn (i + 1) h ∧ tn2 j h) → (∀ b ∈ fp ++ fp2, ∀ o, h.get? b = some o → h'.get? b = some o) → tn (i + 1) h' ∧ tn2 j h' := fun j h h' z k => ⟨T.keep _ _ _ z.1 fun b hb => k b (List.mem_append_left _ hb), T2.keep _ _ _ z.2 fun b hb => k b (List.mem_append_right _ hb)⟩
        have main : ∀ (k : Result → Sem PySem.Fin) (p : Pos), k (.ok .next) = .pure (.again (.compLoop (two elt tg iter ifs tg2 iter2 ifs2 scope gpos) 0 (.ref it) .none Xg.env)) → ∀ (m1 n j : Nat) (a1 : α) (H5 : Hp) (s₀ s : Shared), m1 < n → m1 < m → W2 j m1 a1 H5 → CRel a1 s₀.heap → (∀ b ∈ Ss, s.heap.get? b = s₀.heap.get? b) → GSt Xg gp (fp ++ fp2) (fun j h => tn (i + 1) h ∧ tn2 j h) Ss (wipe σ3 vs2) j H5 s →
            Seg (model Xg.prog Xg.w) B (RG CRel Fin Xg gp Ss (wipe σ vs)) (YG CRel Stp Xg gp [] (fun _ _ => True) Ss (wipe σ vs)) n s₀ (.compLoop (two elt tg iter ifs tg2 iter2 ifs2 scope gpos) 1 (.ref it2) .none Xg.env)
              ((model Xg.prog Xg.w).den (.compLoop (two elt tg iter ifs tg2 iter2 ifs2 scope gpos) 1 (.ref it2) .none Xg.env)) [.ret k none false [] (.compLoop (two elt tg iter ifs tg2 iter2 ifs2 scope gpos) 0 (.ref it) .none Xg.env) p []] s := by
          intro k p hk m1
          have hover1 : B.over (.compLoop (two elt tg iter ifs tg2 iter2 ifs2 scope gpos) 1 (.ref it2) .none Xg.env) [.ret k none false [] (.compLoop (two elt tg iter ifs tg2 iter2 ifs2 scope gpos) 0 (.ref it) .none Xg.env) p []] = Xg.A := over_twoI.trans hov
          induction m1 using Nat.strongRecOn with
          | ind m1 ih1 =>
            intro n j a1 H5 s₀ s hmn hmm w1 crel ksS hst
            obtain ⟨cp, ecp, I, ⟨stA, stB⟩, nf⟩ := hst
            have epin : (gp :: cp).map (·.1) = gp.1 :: Ss := by rw [List.map_cons, ecp]
            have nfA : ∀ b ∈ fp, H5 b = none := fun b hb => nf b (List.mem_append_left _ hb)
            have nfB : ∀ b ∈ fp2, H5 b = none := fun b hb => nf b (List.mem_append_right _ hb)
            have Ip := I.pinned (fpOk epin I nfA) (T.obj _ _ stA)
            have outA : ∀ {extra : List (Addr × Obj)} {σ' : L2.St} {s' : Shared} {H' : Hp}, Inv Xg (((gp :: cp) ++ pinsAt fp s.heap) ++ extra) σ' H' s' → tn (i + 1) s'.heap ∧ ∀ b ∈ fp, H' b = none := fun {extra σ' s' H'} I' => by
              have pin' : ∀ b ∈ fp, ∀ o, s.heap.get? b = some o → s'.heap.get? b = some o ∧ H' b = none := fun b hb o e =>
                let z := I'.pin (b, o) (List.mem_append_right _ (List.mem_append_left _ (List.mem_append_right _ (mem_pinsAt hb e))))
                ⟨z.1, z.2.1⟩
              refine ⟨T.keep _ _ _ stA fun b hb o e => (pin' b hb o e).1, fun b hb => ?_⟩
              obtain ⟨o, e, _⟩ := T.obj _ _ stA b hb
              exact (pin' b hb o e).2
            show Seg _ B _ _ _ s₀ _ ((compTurn (two elt tg iter ifs tg2 iter2 ifs2 scope gpos) 1 (.ref it2) .none Xg.env).onRaise (fun x => do noteFrame x Xg.env; theTreesLotGoes x)) [_] s
            rw [compTurn_two_in, Sem.onRaise_eq_wrap]
            refine seg_bind_wrap (wpAny_standAt ?_)
            rcases turn2 j m1 a1 H5 w1 with ⟨stop, m', hm', w'⟩ | ⟨go, Nx, hNx, step⟩
            · refine seg_bind_wrap ?_
              rw [hover1]
              refine wpAny_mono (T2.done Xg rfl rfl rfl hc j ((gp :: cp) ++ pinsAt fp s.heap) s (wipe σ3 vs2) H5 (fun _ _ => False) Ip (fp2Ok ecp nfB) stB stop) (fun r s1 ⟨hr, I1⟩ => ?_) fun _ _ z => z.elim
              subst hr
              refine seg_leaf (.ok .next) ?_
              rw [hk]
              have I1' : Inv Xg (((gp :: cp) ++ pinsAt fp s.heap) ++ []) (wipe σ3 vs2) H5 s1 := by rw [List.append_nil]; exact I1
              obtain ⟨o1, o2⟩ := outA I1'
              exact seg_again rfl (ih m' (by omega) n (i + 1) a1 H5 s₀ s1 (by omega) w' crel (ownSs ecp ksS I I1) ⟨cp, ecp, (I1.unpinned (pins := gp :: cp)).weak (by rw [wipe_length, wipe_length, ← wipe_length σ3 vs, hw3, wipe_length]) wk3, o1, o2⟩)
            · refine seg_bind_wrap ?_
              rw [hover1]
              refine wpAny_mono (T2.item Xg rfl rfl rfl hc j ((gp :: cp) ++ pinsAt fp s.heap) s (wipe σ3 vs2) H5 (fun _ _ => False) Ip (fp2Ok ecp nfB) stB go) (fun r s1 ⟨u, hr, h1⟩ => ?_) fun _ _ z => z.elim
              subst hr
              refine seg_bind_wrap ?_
              rw [hover1]
              refine wpAny_mono h1 (fun _ s2' ⟨x, H2, I2, rx, y2, st2, n2⟩ => ?_) fun _ _ z => z.elim
              have I2' := I2.pinned (fp2Ok ecp n2) (T2.obj _ _ st2)
              refine seg_bind_wrap ?_
              rw [hover1]
              refine wpAny_mono (hxe' (hg2.run _ s2' (wipe σ3 vs2) H2 x u _ I2' rx (step x H2 y2))) (fun _ s3' ⟨σ4, H3, I3, hw4, q3⟩ => ?_) fun _ _ z => z
              refine seg_bind_wrap ?_
              rw [hover1]
              refine wpAny_mono (hxe' (ht2.run _ s3' σ4 H3 _ I3 q3)) (fun b s4' ⟨H4, I4, q4⟩ => ?_) fun _ _ z => z
              have fin1 : ∀ {s' : Shared} {H' : Hp}, Inv Xg (((gp :: cp) ++ pinsAt fp s.heap) ++ pinsAt fp2 s2'.heap) σ4 H' s' → GSt Xg gp (fp ++ fp2) (fun j h => tn (i + 1) h ∧ tn2 j h) Ss (wipe σ3 vs2) (j + 1) H' s' := fun {s' H'} I' => by
                have pin' : ∀ b ∈ fp2, ∀ o, s2'.heap.get? b = some o → s'.heap.get? b = some o ∧ H' b = none := fun b hb o e =>
                  let z := I'.pin (b, o) (List.mem_append_right _ (List.mem_append_right _ (mem_pinsAt hb e)))
                  ⟨z.1, z.2.1⟩
                have hl : (wipe σ3 vs2).length = σ4.length := by rw [← hw4, wipe_length]
                obtain ⟨o1, o2⟩ := outA I'
                refine ⟨cp, ecp, ((I'.unpinned (pins := (gp :: cp) ++ pinsAt fp s.heap)).unpinned (pins := gp :: cp)).weak hl (fun j v e => ?_), ⟨o1, T2.keep _ _ _ st2 fun b hb o e => (pin' b hb o e).1⟩, fun b hb => ?_⟩
                · rw [← hw4] at e
                  exact (wipe_some e).1
                · rcases List.mem_append.mp hb with y | y
                  · exact o2 b y
                  · obtain ⟨o, e, _⟩ := T2.obj _ _ st2 b y
                    exact (pin' b y o e).2
              have own4 : ∀ {extra : List (Addr × Obj)} {σ' : L2.St} {H' : Hp} {s' : Shared}, Inv Xg (((gp :: cp) ++ pinsAt fp s.heap) ++ extra) σ' H' s' → ∀ b ∈ Ss, s'.heap.get? b = s₀.heap.get? b := fun {extra σ' H' s'} I' => ownSs (extra := pinsAt fp s.heap ++ extra) ecp ksS I (by rw [← List.append_assoc]; exact I')
              cases b with
              | false =>
                simp only [Bool.false_eq_true, if_false] at q4 ⊢
                obtain ⟨m', hm, w'⟩ := hNx _ _ q4
                exact seg_again rfl (ih1 m' hm n (j + 1) a1 H4 s₀ s4' (by omega) (by omega) w' crel (own4 I4) (fin1 I4))
              | true =>
                simp only [if_true] at q4 ⊢
                have hy : ∀ v, yieldOut Xg.env v = yieldValue v := fun v => by simp only [yieldOut, hco, Bool.false_eq_true, if_false]
                simp only [hy]
                obtain ⟨n', rfl⟩ : ∃ n', n = n' + 1 := ⟨n - 1, by omega⟩
                rw [Sem.bind_eq_wrap', Sem.bind_eq_wrap', Sem.wrap_wrap, Sem.wrap_wrap]
                refine seg_wrap ?_
                rw [hover1]
                refine wpAny_mono (hxe' (he.run _ s4' σ4 H4 _ I4 q4)) (fun yv s5' ⟨y, H5', I5, ry, q5⟩ => ?_) fun _ _ z => z
                have G5 := fin1 I5
                refine seg_at (seg_yield rfl rfl rfl ⟨0, y, a1, H5', Nx, ry, G5.loose (by rw [wipe_length, wipe_length, ← wipe_length σ3 vs, hw3, wipe_length]) wk3, crel, own4 I5, q5, fun s6 acc' sl cr nx => ?_⟩)
                obtain ⟨m', hm, w'⟩ := hNx _ _ nx
                exact seg_again rfl (ih1 m' hm n' (j + 1) acc' H5' s6 s6 (by omega) (by omega) w' cr (fun _ _ => rfl) (G5.wokenK kp12 hS2 sl))
        refine seg_call fun p => ?_
        have st6 : GSt Xg gp (fp ++ fp2) (fun j h => tn (i + 1) h ∧ tn2 j h) Ss (wipe σ3 vs2) 0 H6 s6 := by
          have G6 := fin I6
          obtain ⟨cp', ec', _, t6, n6⟩ := G6
          refine ⟨cp, ecp, (I6.unpinned (pins := gp :: cp)).weak (wipe_length ..) (fun j v e => (wipe_some e).1), ⟨t6, stB0⟩, fun b hb => ?_⟩
          rcases List.mem_append.mp hb with y | y
          · exact n6 b y
          · exact (f2 b y).1
        have loop := fun (k : Result → Sem PySem.Fin) (hk : k (.ok .next) = .pure (.again (.compLoop (two elt tg iter ifs tg2 iter2 ifs2 scope gpos) 0 (.ref it) .none Xg.env))) => main k p hk m1 n 0 acc H6 s₀ s6 (by omega) hm1 w1 crel (ownSs ecp ksS I I6) st6
        show Seg _ B _ _ _ s₀ _ ((compStart (two elt tg iter ifs tg2 iter2 ifs2 scope gpos) 1 (.ref it2) .none Xg.env).onRaise (fun x => do noteFrame x Xg.env; standAt theWindowsPlace)) [_] s6
        unfold compStart
        rw [Sem.onRaise_eq_wrap]
        show Seg _ B _ _ _ s₀ _ ((ask >>= _).wrap _ _ _ _) [_] s6
        refine seg_bind_wrap (wpAny_askSetting ?_)
        split
        · exact seg_again rfl (loop _ rfl)
        · first
            | exact seg_bind_wrap (wpAny_rule (seg_bind_wrap (wpAny_standAt (seg_bind_wrap (T2.self _ 0 s6 _ _ stB0 (seg_again rfl (loop _ rfl)))))))
            | (refine seg_bind_wrap (wpAny_rule ?_); show Seg _ B _ _ _ s₀ _ ((standAt iter2.pos >>= _).wrap _ _ _ _) [_] s6; exact seg_bind_wrap (wpAny_standAt (seg_bind_wrap (T2.self _ 0 s6 _ _ stB0 (seg_again rfl (loop _ rfl))))))
end
end GX

namespace GX
open PySem PySem.Spec PyProof.Rows L2 GenW
section
variable {X : Cx} {pins : List (Addr × Obj)} {σ : L2.St} {tg elt iter : Expr} {ifs : List Expr} {scope : Scope} {gpos : Pos} {own : List (Str × Nat)} {J : It} {code : Value} {H3 : Hp} {s3 : Shared} {it : Addr} {fp : List Addr} {tn : Nat → Heap → Prop} {a : Addr} {g : Nat} {gob : Obj} {s5 : Shared}
/-- the first turn -/
theorem Made.wake2 {tg2 iter2 : Expr} {ifs2 : List Expr} {ti2 : TI} {g2 : TG} {tt2 : TT} {vs2 : List Nat} (M : Made X pins σ tg elt iter ifs [⟨tg2, iter2, ifs2, 0⟩] scope gpos own J code H3 s3 it fp tn a g gob s5) {α : Type} {CRel : α → Heap → Prop} {Stp : Stps α} {Fin : α → Hp → Prop} {Ss : List Addr} {g' : TG} {tt : TT} {te : TE} {W : Nat → Nat → α → Hp → Prop} {A : Around} {m0 n : Nat} {a0 : α} {s2 : Shared}
    (hco : scope.isCoroutine = false) (hd : A.handled = none) (hf : A.frames = some X.stack) (hg : PG (M.cx A) tg g') (ht : PTs (M.cx A) ifs tt) (hi2 : PI (M.cx A) tg2 iter2 ti2) (hs2 : ∀ v, foldedSetIterable iter2 (gEnv X scope s3 code) v = pure v) (hg2 : PG (M.cx A) tg2 g2) (ht2 : PTs (M.cx A) ifs2 tt2) (he : PE (M.cx A) elt te) (hvs : ∀ v ∈ vs2, v ∈ own.map (·.2)) (turn : TurnsR2 Stp Fin J g' tt ti2 g2 tt2 te (own.map (·.2)) vs2 σ W) (w0 : W 0 m0 a0 H3) (hmn : m0 < n)
    (ho : s2.os = s5.os) (hb : AllBare s2.gens) (hk : ∀ b o, s5.heap.get? b = some o → s2.heap.get? b = some o) (hS : ∀ b ∈ Ss, s5.heap.objs.size ≤ b ∧ ∃ o, s2.heap.get? b = some o ∧ ∀ v, o.data ≠ .cell v) (cr : CRel a0 s2.heap) :
    Seg (model X.prog X.w) A (RG CRel Fin (M.cx A) (a, gob) Ss (wipe σ (own.map (·.2)))) (YG CRel Stp (M.cx A) (a, gob) [] (fun _ _ => True) Ss (wipe σ (own.map (·.2)))) n s2 (.compStart (.GeneratorExp elt (⟨tg, iter, ifs, 0⟩ :: [⟨tg2, iter2, ifs2, 0⟩]) scope gpos) 0 (.ref it) .none (gEnv X scope s3 code))
      ((model X.prog X.w).den (.compStart (.GeneratorExp elt (⟨tg, iter, ifs, 0⟩ :: [⟨tg2, iter2, ifs2, 0⟩]) scope gpos) 0 (.ref it) .none (gEnv X scope s3 code))) [] s2 := by
  have hB := M.bok hd hf
  have I5 := M.sub _ hB
  have SO := M.ss hB fun b hb => (hS b hb).1
  have hgf : a ∉ fp := fun z => Nat.lt_irrefl _ (Nat.lt_of_lt_of_le (M.fps a z).2 M.ag)
  have fpOk : ∀ b ∈ fp, ∀ H' : Hp, H' b = none → FpOk (M.cx A) [] H' b := fun b hb H' hn => by
    refine ⟨hn, (I5.ok.exf b hb).1, I5.ok.exfs b hb, .inl hb, fun x c e => (I5.ok.exf b hb).2 x c e, fun p hp => absurd (show p ∈ ([] : List (Addr × Obj)) ++ [] from hp) (by simp)⟩
  have I2 : Inv (M.cx A) [(a, gob)] (wipe σ (own.map (·.2))) H3 s2 := by
    have J := inv_gens (g' := s2.gens) (d' := s2.drawn) (t' := s2.toks) I5 hk hb
    rw [GxR.sh_eta s5 s2 ho] at J
    exact J
  obtain ⟨cp, ecp, hcp⟩ := pins_exist Ss s2.heap fun b hb => (hS b hb).2
  have st2 : GSt (M.cx A) (a, gob) fp tn Ss (wipe σ (own.map (·.2))) 0 H3 s2 := by
    refine ⟨cp, ecp, I2.pins_of fun p hp => ?_, M.turn.keep _ _ _ M.st fun b _ o e => hk b o e, fun b hb => (M.fps b hb).1.1⟩
    rcases List.mem_cons.mp hp with z | z
    · rw [z]
      exact I2.pin (a, gob) (List.mem_append_right _ (List.mem_cons_self ..))
    · have hm : p.1 ∈ Ss := by rw [← ecp]; exact List.mem_map_of_mem z
      have lt := (hS _ hm).1
      exact ⟨(hcp p z).1, I5.hok.fresh lt, (SO.all _ hm).2.1, I5.nofs lt, (hcp p z).2⟩
  have loop := gx_loop2 (iter := iter) (iter2 := iter2) (gpos := gpos) (B := A) (CRel := CRel) (Xg := M.cx A) (scope := scope) (it := it) rfl rfl hco rfl M.turn fpOk SO hgf hg ht hi2 hs2 hg2 ht2 he hvs turn m0 n 0 a0 H3 s2 s2 hmn w0 cr (fun _ _ => rfl) st2
  have hover : A.over (.compStart (.GeneratorExp elt (⟨tg, iter, ifs, 0⟩ :: [⟨tg2, iter2, ifs2, 0⟩]) scope gpos) 0 (.ref it) .none (gEnv X scope s3 code)) [] = A.deeper (gEnv X scope s3 code) := over_two0
  show Seg _ A _ _ _ s2 _ ((compStart (.GeneratorExp elt (⟨tg, iter, ifs, 0⟩ :: [⟨tg2, iter2, ifs2, 0⟩]) scope gpos) 0 (.ref it) .none (gEnv X scope s3 code)).onRaise (leaving (gEnv X scope s3 code))) [] s2
  unfold compStart
  rw [Sem.onRaise_eq_wrap]
  show Seg _ A _ _ _ s2 _ ((ask >>= _).wrap _ _ _ _) [] s2
  have st := M.turn.keep _ _ _ M.st fun b _ o e => hk b o e
  refine seg_bind_wrap (wpAny_askSetting ?_)
  split
  · exact seg_again rfl loop
  · first
      | exact seg_bind_wrap (wpAny_rule (seg_bind_wrap (wpAny_standAt (seg_bind_wrap (M.turn.self _ 0 s2 _ _ st (seg_again rfl loop))))))
      | (refine seg_bind_wrap (wpAny_rule ?_); show Seg _ A _ _ _ s2 _ ((standAt iter.pos >>= _).wrap _ _ _ _) [] s2; exact seg_bind_wrap (wpAny_standAt (seg_bind_wrap (M.turn.self _ 0 s2 _ _ st (seg_again rfl loop)))))
end
def tGx2 {α : Type} (a0 : α) (Stp : VK → Stps α) (Fin : VK → α → Hp → Prop) (tc : TC) (ti : TI) (g : TG) (tt : TT) (ti2 : TI) (g2 : TG) (tt2 : TT) (te : Value → TE) (vs vs2 : List Nat) : TE := fun σ H Q => ti σ H fun J H1 => tc σ H1 fun code H2 => ∃ W : Nat → Nat → α → Hp → Prop, (∃ m, W 0 m a0 H2) ∧ TurnsR2 (Stp Q) (Fin Q) J g tt ti2 g2 tt2 (te code) vs vs2 σ W
section
variable {X : Cx} {tg elt iter tg2 iter2 : Expr} {ifs ifs2 : List Expr} {scope : Scope} {gpos p pos : Pos} {own : List (Str × Nat)} {ti ti2 : TI} {tc : TC} {P0 : Addr} {k : Nat} {g' g2 : TG} {tt tt2 : TT} {te : Value → TE} {vs2 : List Nat}
theorem pe_allX2 (hr : Room (k + 3) X.A) (hN : X.N.Nodup) (glob : Gl X "all") (free : X.mg "all" = none) (BA : X.base.BuiltinsAt X.mg P0) (hi : PI X tg iter ti) (hpc : PC X gpos scope tc) (ok : GOk X.N X.env.scope scope own)
    (hg : Fam X k scope fun Y _ => PG Y tg g') (ht : Fam X k scope fun Y _ => PTs Y ifs tt) (hi2 : Fam X k scope fun Y _ => PI Y tg2 iter2 ti2) (hs2 : ∀ (e : Env) v, foldedSetIterable iter2 e v = pure v) (hg2 : Fam X k scope fun Y _ => PG Y tg2 g2) (ht2 : Fam X k scope fun Y _ => PTs Y ifs2 tt2) (hvs : ∀ v ∈ vs2, v ∈ own.map (·.2)) (he : Fam X k scope fun Y code => PE Y elt (te code)) (hs : ∀ v, genFold iter X.env v = pure v := by intro _; rfl)
    (one : starEach [.GeneratorExp elt (⟨tg, iter, ifs, 0⟩ :: [⟨tg2, iter2, ifs2, 0⟩]) scope gpos] X.env = [(false, eval (.GeneratorExp elt (⟨tg, iter, ifs, 0⟩ :: [⟨tg2, iter2, ifs2, 0⟩]) scope gpos) X.env)] := by rfl) :
    PE X (.Call (.Name "all" p) [.GeneratorExp elt (⟨tg, iter, ifs, 0⟩ :: [⟨tg2, iter2, ifs2, 0⟩]) scope gpos] [] pos) (tGx2 () stAll fiAll tc ti g' tt ti2 g2 tt2 te (own.map (·.2)) vs2) := by
  constructor
  intro pins s σ H Q I h
  refine wpAny_Call_Name_kw (ld_blt I glob free (show bootBuiltins "all" = some (.builtin "all") by decide +kernel) (callWith_builtin1 ?_ one (by rfl)) (by decide) (by decide))
  rw [one]
  refine Calls.spliced_cons (gx_eval I hN hr hi hpc BA ok hs h fun J code H3 s3 it fp tn a g gob s5 want M => Calls.spliced_nil ?_)
  obtain ⟨W, ⟨m0, w0⟩, turn⟩ := want
  have hd : X.A.depth < recursionLimit := by have := hr.dp; omega
  have hB := M.bok (A := X.A.in1.in1) hr.hd I.ok.frames
  have I5 := M.sub _ hB
  have rm := room_in hr (gEnv X scope s3 code)
  refine call_function_tree F.kind_all F.plain_all F.entry_all (F.args_all1 _) ?_
  unfold Builtin.«all»
  refine wpAny_bind (m := oneArg "all" _) (wpAny_pure ?_)
  refine wpAny_bind (wpAny_pyIter_gen (M.isGen M.get) ?_)
  refine wpAny_pure ⟨plainId_quiet F.plain_all_loop _, M.all_loop (fpY := []) (tnY := fun _ _ => True) (σ0 := wipe σ (own.map (·.2))) hr.hd hd (fun v u H s' I' r q => ⟨v, H, I', r, q⟩) (m0 + 1) s5 _ M.get I5.nolimit M.gen ?_⟩
  refine ⟨rfl, ?_⟩
  exact M.wake2 (A := X.A.in1.in1) (s2 := s5.setGen g .running) ok.co hr.hd I.ok.frames (hg _ _ _ _ _ rm rfl) (ht _ _ _ _ _ rm rfl) (hi2 _ _ _ _ _ rm rfl) (hs2 _) (hg2 _ _ _ _ _ rm rfl) (ht2 _ _ _ _ _ rm rfl) (he _ _ _ _ _ rm rfl) hvs turn w0 (Nat.lt_succ_self _) rfl (allBare_setGen I5.bare rfl) (fun _ _ e => e) (fun _ h => nomatch h) trivial
end
section
variable {J : It} {n : Nat} {G : Hp → Prop} {Y : Nat → Hp → V → Hp → Prop} {g g2 : TG} {tt tt2 : TT} {ti2 : TI} {te : TE} {vs vs2 : List Nat} {σ : L2.St} {Q : VK} {H2 : Hp}
/-- what the inner turns are to do -/
def InAll (Iv : Hp → Prop) (kn : Nat) (fb : Nat → Bool) (g2 : TG) (tt2 : TT) (te : TE) (vs2 : List Nat) (σ2 : L2.St) (J2 : It) (H4 : Hp) : Prop :=
  ∃ (G2 : Hp → Prop) (Y2 : Nat → Hp → V → Hp → Prop), Walk J2 kn G2 Y2 ∧ (∀ H, Iv H → G2 H) ∧ Iv H4 ∧ ∀ (j : Nat) (y : V) (H5 H6 : Hp) (Kt : V → Hp → Prop) (Kn : Hp → Prop), j < kn → Iv H5 → Y2 j H5 y H6 → (∀ H7, Iv H7 → Kt (.bl (fb j)) H7) → g2 y (wipe σ2 vs2) H6 fun σ3 H7 => wipe σ3 vs2 = wipe σ2 vs2 ∧ tt2 σ3 H7 fun b H8 => if b = true then te σ3 H8 Kt else Kn H8
theorem turns_all2 (w : Walk J n G Y) (kn : Nat → Nat) (Bd : Nat) (hkn : ∀ i, i < n → kn i ≤ Bd) (fb : Nat → Nat → Bool) (Iv : Hp → Prop) (h0 : Iv H2) (hG : ∀ H, Iv H → G H)
    (turn : ∀ i x H H' (R2 : L2.St → It → Hp → Prop) (Kn : Hp → Prop), i < n → Iv H → Y i H x H' → (∀ σ2 J2 H4, InAll Iv (kn i) (fb i) g2 tt2 te vs2 σ2 J2 H4 → R2 σ2 J2 H4) → g x (wipe σ vs) H' fun σ2 H2 => wipe σ2 vs = wipe σ vs ∧ tt σ2 H2 fun b H3 => if b = true then ti2 σ2 H3 (R2 σ2) else Kn H3)
    (fin : ∀ H b, Iv H → (b = true ↔ ∀ i j, i < n → j < kn i → fb i j = true) → Q (.bl b) H) : ∃ W : Nat → Nat → Unit → Hp → Prop, (∃ m, W 0 m () H2) ∧ TurnsR2 (stAll Q) (fiAll Q) J g tt ti2 g2 tt2 te vs vs2 σ W := by
  refine ⟨fun i m _ H => m = (n - i) * (Bd + 2) ∧ i ≤ n ∧ Iv H ∧ ∀ i' j', i' < i → j' < kn i' → fb i' j' = true, ⟨n * (Bd + 2), by rw [Nat.sub_zero], Nat.zero_le _, h0, fun i' j' h => absurd h (Nat.not_lt_zero _)⟩, ?_⟩
  rintro i m _ H ⟨rfl, hi, iv, al⟩
  have q := hG H iv
  by_cases hlt : i < n
  · have em : (n - i) * (Bd + 2) = (n - (i + 1)) * (Bd + 2) + (Bd + 2) := by
      rw [show n - i = (n - (i + 1)) + 1 by omega, Nat.succ_mul]
    refine .inr ⟨w.goes i H hlt q, fun x H' y => turn i x H H' (fun σ2 J2 H4 => _) _ hlt iv (w.yields i H x H' hlt q y) (fun σ2 J2 H4 hin => ?_)⟩
    obtain ⟨G2, Y2, w2, hG2, iv4, t2⟩ := hin
    refine ⟨fun j m1 _ H5 => m1 = (n - (i + 1)) * (Bd + 2) + (Bd + 1 - j) ∧ j ≤ kn i ∧ Iv H5 ∧ ∀ j', j' < j → fb i j' = true, ⟨_, by rw [em]; omega, rfl, Nat.zero_le _, iv4, fun j' h => absurd h (Nat.not_lt_zero _)⟩, ?_⟩
    rintro j m1 _ H5 ⟨rfl, hj, iv5, al5⟩
    have hB := hkn i hlt
    have q5 := hG2 H5 iv5
    by_cases hjl : j < kn i
    · refine .inr ⟨w2.goes j H5 hjl q5, fun _ H' => Iv H' ∧ fb i j = true, fun _ H' ⟨z1, z2⟩ => ⟨(n - (i + 1)) * (Bd + 2) + (Bd + 1 - (j + 1)), by omega, rfl, hjl, z1, fun j' hj' => ?_⟩, fun y H6 hy => t2 j y H5 H6 _ _ hjl iv5 (w2.yields j H5 y H6 hjl q5 hy) (fun H7 iv7 => ⟨fb i j, rfl, ?_⟩)⟩
      · by_cases e : j' = j
        · rw [e]; exact z2
        · exact al5 j' (by omega)
      · cases e : fb i j with
        | true => rw [if_pos rfl]; exact ⟨iv7, rfl⟩
        | false =>
          rw [if_neg Bool.false_ne_true]
          refine fin H7 false iv7 ⟨(fun z => nomatch z), fun z => ?_⟩
          rw [z i j hlt hjl] at e
          cases e
    · have ej : j = kn i := by omega
      refine .inl ⟨by rw [ej]; exact w2.stops H5 q5, (n - (i + 1)) * (Bd + 2), by omega, rfl, hlt, iv5, fun i' j' h1 h2 => ?_⟩
      by_cases e : i' = i
      · rw [e] at h2 ⊢; exact al5 j' (by omega)
      · exact al i' j' (by omega) h2
  · have e : i = n := by omega
    subst e
    exact .inl ⟨w.stops H q, fin H true iv ⟨fun _ i' j' h1 h2 => al i' j' h1 h2, fun _ => rfl⟩⟩
end
end GX

open LamX
/-! ### a lambda is made: all but its own table stands -/
def ButAt (P : Addr) (H H1 : Hp) : Prop := ∀ b o, b ≠ P → H b = some o → H1 b = some o
theorem lam_make3 {X : Cx} {pins : List (Addr × Obj)} {σ : L2.St} {H : Hp} {s : Shared} {c P : Addr} {params : Arguments} {body : Expr} {scope : Scope} {pos : Pos} {E : Value → Shared → Prop} {Q : Value → Shared → Prop} (I : Inv X pins σ H s) (TB : LamX.TabB X.base X.mg c P) (hcode : X.env.code = .ref c)
    (hT : TabS H P (X.env.qual ++ "<lambda>")) (hdef : defaultsOf params X.env = ([], [])) (hfree : ∀ y ∈ scope.names, y.2 = .free → ∃ c, X.env.cells.lookup y.1 = some c)
    (fin : ∀ (f c' : Addr) (pm ctv : Value) (H1 : Hp) (s' : Shared), Inv X pins σ H1 s' → ButAt P H H1 → TabS H1 P (X.env.qual ++ "<lambda>") →
      s'.heap.get? f = some (PySem.W.kla_obj "<lambda>" (X.env.qual ++ "<lambda>") params body scope (cloFrom X.env.cells scope.names []) pm c' ctv) → H1 c' = some (CodeO c' (X.env.qual ++ "<lambda>")) → Q (.ref f) s') :
    wpAny (model X.prog X.w) X.A (eval (.Lambda params body scope pos) X.env) Q E s := by
  obtain ⟨tb, atP, triples, named⟩ := id hT
  have there : s.heap.get? P = some { cls := .none, data := .fields tb } := I.hok P _ atP
  refine PySem.W.kla_eval hdef ?_
  cases found : codeAmong pos tb.toList with
  | some old =>
    obtain ⟨c', rfl, isCode⟩ := named pos old found
    exact PySem.W.kla_makeFunctionHit (mg := X.mg) (c := c) (P := P) (ps := tb) (closure_ok hfree) I.ok.glob (I.mod.glob.keeps I.bk) hcode (TB.code.keeps I.bk) there triples found (TB.bm.keeps I.bk) fun ctv h' tk kept _ =>
      fin h'.objs.size c' _ ctv H _ (I.kept fun b o e => Heap.get?_push_of_some _ (kept b o e)) (fun _ _ _ e => e) hT (Heap.get?_push_size _ rfl) isCode
  | none =>
    refine PySem.W.kla_makeFunction (mg := X.mg) (c := c) (P := P) (ps := tb) (closure_ok hfree) I.ok.glob (I.mod.glob.keeps I.bk) hcode (TB.code.keeps I.bk) there triples found TB.gP (TB.bm.keeps I.bk) fun c' ctv h' tk kept ge _ rec_ grown => ?_
    obtain ⟨c2, oc, vs, t, same, hoc, hd, hv⟩ := rec_
    cases same
    have new : H c' = none := I.hok.fresh ge
    have J := inv_table (t' := tk) (more := #[rawInt pos.line, rawInt pos.col, .ref c']) (h' := h'.push (PySem.W.kla_obj "<lambda>" (X.env.qual ++ "<lambda>") params body scope (cloFrom X.env.cells scope.names []) ((X.mg "__name__").getD .none) c' ctv)) I atP
      (fun b o hb e => Heap.get?_push_of_some _ (kept b o hb e)) (Heap.get?_push_of_some _ grown) ge ⟨oc, vs, t, Heap.get?_push_of_some _ hoc, hd, hv⟩
    have but : ButAt P H (upd (upd H P (.tbl (tb ++ #[rawInt pos.line, rawInt pos.col, .ref c']))) c' (CodeO c' (X.env.qual ++ "<lambda>"))) := fun b o hb e => by
      rw [upd_ne (ne_of_none e new), upd_ne hb]
      exact e
    have aslist : (tb ++ #[rawInt pos.line, rawInt pos.col, .ref c']).toList = tb.toList ++ [rawInt pos.line, rawInt pos.col, .ref c'] := by simp
    refine fin h'.objs.size c' _ ctv _ _ J but ⟨_, by rw [upd_ne (ne_of_none atP new), upd_same], by rw [aslist]; exact PySem.TriplesOk_snoc _ _ _ _ triples, fun p' cv hcv => ?_⟩ (Heap.get?_push_size _ rfl) upd_same
    rw [aslist] at hcv
    rcases among_app _ triples hcv with z | z
    · obtain ⟨c0, e1, e2⟩ := named p' cv z
      exact ⟨c0, e1, but _ _ (fun w => by rw [w, atP] at e2; exact codeO_ne tb (Option.some.inj e2).symm) e2⟩
    · exact ⟨c', z, upd_same⟩
def tSortL3 (P : Addr) (q : Str) (Kf : L2.St → Hp → V → PyData → Prop) (t : TA) : TE := fun σ H Q => t σ H fun vs H1 => TabS H1 P q ∧ ∃ (a : Addr) (n : Nat) (k : V → PyData), vs = [.ref a] ∧ H1 a = some (.rng 0 (n : Int)) ∧ n ≤ 10000 ∧
  PySem.W.AllAlike ((rngV n).map k) ∧ PySem.W.Sortable ((rngV n).map k) ∧ (∀ x ∈ rngV n, (k x).depth ≤ 8) ∧ (∀ x ∈ rngV n, ∀ H2, TbL P q H1 H2 → Kf σ H2 x (k x)) ∧ ∀ H2 p, TbL P q H1 H2 → ButAt P H1 H2 → H2 p = none → Q (.ref p) (upd H2 p (.lst ((rngV n).mergeSort (PySem.W.dataLe false k))))
section
variable {X : Cx} {c P : Addr} {e : Expr} {t : TA} {params : Arguments} {body : Expr} {scope : Scope} {a : Str} {lpos kpos p pos : Pos} {Kf : L2.St → Hp → V → PyData → Prop}
theorem pe_sortedL3 (TB : LamX.TabB X.base X.mg c P) (hcode : X.env.code = .ref c) (hg : Gl X "sorted") (hm : X.mg "sorted" = none) (hr : Room 3 X.A) (ha : PA X [e] t) (hdef : defaultsOf params X.env = ([], [])) (LP : LamP X.env.scope scope a)
    (hbind : ∀ (v pm ctv : Value) (c' : Addr), bindArgs (PySem.W.kla_fn "<lambda>" (X.env.qual ++ "<lambda>") params body scope (cloFrom X.env.cells scope.names []) pm (.ref c') ctv) ⟨[v], []⟩ = pure [(a, v)])
    (hkey : KeyBody X scope a body Kf) (h1 : backTo pos (starEach [e] X.env) = (false, eval e X.env) :: backTo pos (starEach [] X.env) := by rfl) (h2 : (backTo pos (starEach [e] X.env)).any (·.1) = false := by rfl) :
    PE X (.Call (.Name "sorted" p) [e] [⟨some "key", .Lambda params body scope lpos, kpos⟩] pos) (tSortL3 P (X.env.qual ++ "<lambda>") Kf t) := by
  refine ⟨fun pins s σ H Q I h => ?_⟩
  refine wpAny_Call_Name_kw (ld_blt I hg hm (show bootBuiltins "sorted" = some (.builtin "sorted") by decide +kernel) ?_ (by decide) (by decide))
  refine PyProof.Rows.callWith_kw (thn (ha.run pos pins s σ H _ I h) fun us s1 ⟨vs, H1, I1, r1, hT, aL, n, k, ev, hS, hn, hal, hso, hdp, hkf, q1⟩ => ?_) h1 h2 rfl rfl
  subst ev
  obtain rfl := Vals.ref1 r1
  show wpAny _ _ (evalAll [do let v ← eval (.Lambda params body scope lpos) X.env; standAt pos; pure v]) _ _ s1
  have hfree : ∀ y ∈ scope.names, y.2 = .free → ∃ c, X.env.cells.lookup y.1 = some c := fun y hy e => by
    rcases LP.free y hy e with z | z
    · exact I.ok.has _ (.inl z)
    · exact I.ok.has _ (.inr z)
  refine wpAny_evalAll_cons (wpAny_bind (lam_make3 I1 TB hcode hT hdef hfree fun f c' pm ctv H2 s2 I2 b2 T2 hf hc => wpAny_bind (wpAny_standAt (wpAny_pure (wpAny_evalAll_nil ?_)))))
  have x2 : ∀ b o, H1 b = some o → (∀ ps, o ≠ .tbl ps) → H2 b = some o := fun b o e n => b2 b o (fun z => by
    obtain ⟨ps, hP, _⟩ := hT
    rw [z, hP] at e
    exact n ps (Option.some.inj e).symm) e
  have tb2 : TbL P (X.env.qual ++ "<lambda>") H1 H2 := ⟨T2, x2⟩
  have hS2 : H2 aL = some (.rng 0 (n : Int)) := x2 _ _ hS (fun _ w => nomatch w)
  obtain ⟨t0, t1, t2, hra⟩ := (show ObjOk X.prog X.w H2 s2.heap aL (.rng 0 (n : Int)) from I2.hok aL _ hS2)
  show wpAny _ _ (call (.builtin "sorted") [.ref aL] [(Str.ofString "key", .ref f)]) _ _ s2
  have hun := hr.un
  refine sorted_key_range k hr.hd hra hn hal hso (fun x hx => by have := hdp x hx; omega) (fun v x hR hx h tk kp => ?_) (fun pn out c h' tk n0 kp ho eo => ?_)
  · have I3 : Inv X pins σ H2 { s2 with heap := h, toks := tk } := I2.kept kp
    have hf3 := kp _ _ hf
    obtain ⟨⟨oc, vs', t', hoc, hdc, hvc⟩, _, _⟩ := I2.hok c' _ hc
    have hr2 : Room 1 X.A.in1.in1 := hr.in1.in1
    refine wpAny_call (codeAny_mono (R := fun r s' => ∃ u, r = .ok (.ret u) ∧ PySem.W.KeyPure (k x) { s2 with heap := h, toks := tk } u s') ?_ fun r s' hq => ?_)
    · refine PySem.W.kla_callFunE (by have := hr2.dp; omega) hf3 rfl LP.co LP.gen rfl ⟨c', oc, vs', t', rfl, kp _ _ hoc, hdc, hvc⟩ ?_
      rw [hbind]
      refine wpAny_pure (wpAny_newFunctionEnv (fun y hy => LP.own y hy) (fun y hy => by rw [List.mem_singleton.mp hy]; exact LP.par) (fun h₁ hns hsb => ⟨I3.nolimit.fresh _ hsb, ?_⟩) LP.kind)
      have kp1 : ∀ b o, h.get? b = some o → h₁.get? b = some o := fun b o e => hsb.extBut b o (Nat.ne_of_lt (Heap.lt_size e)) (Heap.get?_push_of_some _ e)
      show codeAny _ _ (.expr body (lamEnv X scope h.objs.size f c')) _ _
      refine PySem.W.kla_codeExpr (wpAny_mono (hkey pins σ H2 { s2 with heap := h, toks := tk } { s2 with heap := h₁, toks := tk + 1 } _ h.objs.size f c' v x (k x) I3 kp1 hns hR (hkf x hx H2 tb2)) (fun u s' hq => ?_) fun _ _ z => z.elim)
      obtain ⟨h5, tk5, rfl, k5, rd⟩ := hq
      exact ⟨u, rfl, h5, tk5, rfl, fun b o e => k5 b o (kp1 b o e), rd⟩
    · obtain ⟨u, rfl, hk⟩ := hq
      exact hk
  · have hlen : ((rngV n).mergeSort (PySem.W.dataLe false k)).length ≤ sizeLine := by rw [List.length_mergeSort, List.length_map, List.length_range]; exact Nat.le_trans hn (by decide)
    have np : H2 pn = none := HOk.gone (show HOk X.prog X.w H2 s2.heap from I2.hok) n0
    exact ⟨.ref _, upd H2 pn (.lst ((rngV n).mergeSort (PySem.W.dataLe false k))), Inv.laidN (t' := tk) I2 kp n0 np ⟨hlen, _, c, eo, ho⟩, rfl, q1 H2 _ tb2 b2 np⟩
end

/-! ### rows walked by generator expressions, comprehensions -/
theorem NoTab.same {H H' : Hp} (s : Same H H') : GX.NoTab H H' := .of s
theorem SqH.noTab {H H' : Hp} {a : Addr} {xs : List V} (h : SqH H a xs) (n : GX.NoTab H H') : SqH H' a xs := h.elim (fun e => .inl (n.lst e)) (fun e => .inr (n.tup e))
theorem LsQ.noTab {H H' : Hp} {a : Addr} {rs : List (Int × Int)} (h : LsQ H a rs) (n : GX.NoTab H H') : LsQ H' a rs := by
  obtain ⟨us, e, p⟩ := h
  exact ⟨us, e.noTab n, p.1, fun i r er => let ⟨x, h1, h2⟩ := p.2 i r er; ⟨x, h1, n.tup h2⟩⟩
theorem IntsQ.noTab {H H' : Hp} {a : Addr} {ns : List Int} (h : IntsQ H a ns) (n : GX.NoTab H H') : IntsQ H' a ns := SqH.noTab h n
theorem LsQ.pr {K : PySem.W.Frag} {H : Hp} {a : Addr} {rs : List (Int × Int)} (h : LsQ H a rs) : PrA K H a rs := let ⟨us, e, p⟩ := h; ⟨us, e.sq, p⟩
theorem iseq_lc {K : PySem.W.Frag} {H : Hp} {a : Addr} {xs : List V} {g : TG} {tt : TT} {te : TE} {vs : List Nat} {σ : L2.St} {Qd : Addr → Hp → Prop} (h : SqH H a xs) (r : ∀ J G, Walk J xs.length G (YAt xs) → (∀ H', GX.NoTab H H' → G H') → ∀ D, H D = none → LcR J g tt te vs σ D Qd H) :
    ((∃ xs, SqL K H a xs) ∧ ∀ D, H D = none → LcR (Itl K a) g tt te vs σ D Qd H) ∨ ((∃ xs, SqT K H a xs) ∧ ∀ D, H D = none → LcR (Itt K a) g tt te vs σ D Qd H) := by
  rcases h with e | e
  · exact .inl ⟨⟨_, SqL.of e⟩, r _ _ walk_list fun H' n => SqL.of (n.lst e)⟩
  · exact .inr ⟨⟨_, .inl (.inl e)⟩, r _ _ walk_tup fun H' n => .inl (.inl (n.tup e))⟩

theorem but_free {P : Addr} {q : Str} {H H2 : Hp} {T : Addr} (t2 : TabS H2 P q) (b : ButAt P H H2) (n : H2 T = none) : H T = none := by
  cases e : H T with
  | none => rfl
  | some o =>
    obtain ⟨ps, e2, _⟩ := t2
    by_cases c : T = P
    · rw [c, e2] at n; cases n
    · rw [b _ _ c e] at n; cases n
abbrev qL : Str := "least_samples" ++ ".<locals>." ++ "<lambda>"
def spLeast (K : PySem.W.Frag) (Pt : Addr) : Sp := fun vs H Q _ => ∃ (a b : Addr) (rs gs : List (Int × Int)), vs = [.ref a, .ref b] ∧ LsQ H a rs ∧ LsQ H b gs ∧ rs.length ≤ 700 ∧ gs.length ≤ 700 ∧ (∀ r ∈ rs, r.1 ≤ r.2) ∧ Ris 0 gs ∧ TabS H Pt qL ∧
  (∀ (i : Nat) r, rs[i]? = some r → allGB gs r = true → (∀ (j : Nat) r', j < i → rs[j]? = some r' → allGB gs r' = false) → ∀ H2 T, TbL Pt qL H H2 → ButAt Pt H H2 → H T = none → H2 T = some (.tup [.str "blind", .int (i : Int)]) → Q (.ref T) H2) ∧
  ((∀ r ∈ rs, allGB gs r = false) → ∀ H2 T N A ns ap, TbL Pt qL H H2 → ButAt Pt H H2 → H T = none → H2 T = some (.tup [.str "samples", .ref N, .ref A]) → H2 N = some (.lst (ns.map V.int)) → H2 A = some (.lst (ap.map V.int)) → N ≠ A → H N = none → H A = none → LeastT rs gs ns ap → Q (.ref T) H2)
abbrev sLeast : Stmt := topS 7
theorem scLeast : FnScope ["runs", "gone", "numbers", "apart", "place", "first", "last", "left", "run"] ["runs", "gone"] (defScope sLeast) := ⟨rfl, rfl, rfl, by decide +kernel, rfl, by decide +kernel, by decide +kernel⟩
section
variable {K : PySem.W.Frag} {mg : Str → Option Value} {P : Program} {w : World} {base : Heap}
theorem ok_Least {f : Addr} {c Pt : Addr} {oc kV doc pm ct : Value} {od an : Option Addr} {osl : Array (Option Value)}
    (lk : K.lookup f = some ⟨oc, od, .func (PySem.W.fnOf "least_samples" "least_samples" (defArgs sLeast) (defBody sLeast) (defScope sLeast) .none kV doc pm an (.ref c) ct), osl⟩) (hcd : PySem.W.codeIn K (.ref c) "least_samples" = true)
    (TB : LamX.TabB base mg c Pt) (C_without : Cal P w K mg base 3 "without" ["one", "other"] (spWithout K)) (m_sorted : mg "sorted" = none) (m_range : mg "range" = none) (m_len : mg "len" = none) :
    FnOk P w K mg base CX0 4 f (PySem.W.fnOf "least_samples" "least_samples" (defArgs sLeast) (defBody sLeast) (defScope sLeast) .none kV doc pm an (.ref c) ct) ["runs", "gone"] (spLeast K Pt) := by
  refine fn_of lk hcd scLeast (fun vs H Q E h => ?_) (fun A outer s H vs Q E hr h => ?_)
  · obtain ⟨a, b, rs, gs, rfl, _⟩ := h
    rfl
  · obtain ⟨a, b, rs, gs, rfl, hA, hB, hra, hgb, hro, hrg, hT, qb, qs⟩ := h
    refine ⟨_, PSs.nox (pss_cons (ps_set (i := 7) scLeast.nd rfl (.inr rfl) (pe_lc (own := [("run", 8)]) (g := (gName 8)) (tt := tYes) (te := (tCall (spWithout K) [] E0 (tCons (tLst (tCons (tVar 8) tNil)) (tCons (tVar 1) tNil)))) rfl scLeast.nd (pi_seq (pv 0)) (blkOk_by (own := [("run", 8)]) (N := ["runs", "gone", "numbers", "apart", "place", "first", "last", "left", "run"]) (sc := defScope sLeast) (by decide +kernel)) (fun _ _ _ _ _ => (pg_name (i := 8) scLeast.nd rfl (.inl rfl))) (fun _ _ _ _ _ => pts_nil) (fun _ _ _ _ _ => (pe_own C_without hr (by rfl) (pa_cons (pe_lst (pa_cons (pv 8) pa_nil)) (pa_cons (pv 1) pa_nil))))))
      (pss_cons (ps_if (pt_cmpR (op_inD (u65 hr)) (pe_lst pa_nil) (pv 7) (by rfl)) (pss_one (ps_ret (pe_tup (pa_cons pe_str (pa_cons (pe_bm PySem.F.plainAttrs_list PySem.F.slot_list_index PySem.F.type_list_index (mt_indexD (u65 hr)) (pv 7) (pa_cons (pe_lst pa_nil) pa_nil)) pa_nil)))))
        pss_nil)
      (pss_cons (ps_set (i := 2) scLeast.nd rfl (.inl rfl) (pe_lst pa_nil))
      (pss_cons (ps_set (i := 3) scLeast.nd rfl (.inl rfl) (pe_lst pa_nil))
      (pss_cons (ps_for PassesOwn.never rfl (pi_list (pe_sortedL3 TB rfl (by rfl) m_sorted hr (pa_cons (pe_callTy cr_range1 (by rfl) m_range (by decide +kernel) (pa_cons (pe_callB call_len_seq (by rfl) m_len PySem.boot_len (pa_cons (pv 7) pa_nil)) pa_nil)) pa_nil) (by rfl) (lamP_by (sc := defScope sLeast) (by decide +kernel)) (fun _ _ _ _ => rfl) (key_last1 (i := 7) (lamP_by (sc := defScope sLeast) (by decide +kernel)) rfl rfl rfl (by decide) (by decide) (by decide)))) (pg_name (i := 4) scLeast.nd rfl (.inl rfl))
        (pss_cons (ps_par rfl scLeast.nd (i := 5) (j := 6) rfl rfl (by decide) rfl rfl (pa_cons (pe_ix ix_tup (pe_ix ix_list (pe_ix ix_list (pv 7) (pv 4) (fun _ _ => rfl)) pe_int (fun _ _ => rfl)) pe_int (fun _ _ => rfl)) (pa_cons (pe_ix ix_tup (pe_ix ix_list (pe_ix ix_list (pv 7) (pv 4) (fun _ _ => rfl)) (pe_un un_neg pe_int) (fun _ _ => rfl)) pe_int (fun _ _ => rfl)) pa_nil)) (by rfl))
        (pss_one (ps_if (PW.pt (pw_or (pt_not (pt_truth (pv 2) (by intro _; rfl))) (pw_or1 (pt_cmpR op_lt (pe_ix ix_list (pv 2) (pe_un un_neg pe_int) (fun _ _ => rfl)) (pv 5) (nomark _))))) (pss_cons (ps_expr (pe_bm PySem.F.plainAttrs_list PySem.F.slot_list_append PySem.F.type_list_append mt_append (pv 2) (pa_cons (pv 6) pa_nil)))
          (pss_one (ps_expr (pe_bm PySem.F.plainAttrs_list PySem.F.slot_list_append PySem.F.type_list_append mt_append (pv 3) (pa_cons (pv 4) pa_nil)))))
          pss_nil))))
      (pss_one (ps_ret (pe_tup (pa_cons pe_str (pa_cons (pv 2) (pa_cons (pe_callB cr_sortedI (by rfl) m_sorted (by decide +kernel) (pa_cons (pv 3) pa_nil)) pa_nil))))))))))), ?_⟩
    obtain ⟨ua, ea, pa⟩ := id hA
    have hlen : ua.length = rs.length := pa.1
    refine ⟨_, rfl, a, rfl, iseq_lc ea fun J G wk hG L nL => lc_it wk (fun j H' => Same H H' ∧ ∃ us ls, H' L = some (.lst us) ∧ LR H' us ls ∧ ls.length = j ∧ (∀ v ∈ us, v ≠ .ref L) ∧ ∀ (i : Nat) r l, rs[i]? = some r → ls[i]? = some l → Told (fun n => (r.1 ≤ n ∧ n ≤ r.2) ∧ ¬ InS gs n) l) ⟨same_upd nL, [], [], upd_same, LR.nil, rfl, (fun _ h => nomatch h), fun i r l _ e => by simp at e⟩ (fun j H' _ hP => hG H' (NoTab.same hP.1)) (fun j x H'' H' hi hP hy => ?_) (fun H1 hP => ?_)⟩
    · obtain ⟨rfl, hx⟩ := hy
      obtain ⟨sm, us, ls, eL, hLR, hlj, hng, htold⟩ := hP
      obtain ⟨r, T, er, rfl, eT⟩ := prs_at pa hx
      have hj : j < rs.length := (List.getElem?_eq_some_iff.mp er).1
      have hrr := hro r (List.mem_of_getElem? er)
      refine ⟨rfl, _, rfl, (by show 1 ≤ sizeLine; decide), fun l1 nl1 => ?_⟩
      have sl1 := same_upd (o := .lst [.ref T]) nl1
      have p1 : LsA (upd H' l1 (.lst [.ref T])) l1 [r] := ⟨_, upd_same, Prs.nil.snoc (sl1 _ _ (sm _ _ eT))⟩
      refine ⟨_, rfl, l1, b, [r], gs, rfl, p1.pr, (hB.same (sm.trans sl1)).pr, ⟨r.1, Int.le_refl _, hrr, True.intro⟩, ⟨0, hrg⟩, by show 1 + gs.length ≤ 800; omega, fun l2 l H4 nl2 hl2 htl _ s4 => ?_⟩
      have eL4 := s4 _ _ (sl1 _ _ eL)
      have n2L : l2 ≠ L := fun z => by rw [z, sl1 _ _ eL] at nl2; cases nl2
      have lus : us.length = j := by rw [hLR.1, hlj]
      refine ⟨_, eL4, small1000 (by omega), fun b' o e => ?_, us ++ [.ref l2], ls ++ [l], upd_same, ?_, by rw [List.length_append, hlj]; rfl, fun v hv => ?_, fun i r' l' er' el' => ?_⟩
      · rw [upd_ne (ne_of_none e nL)]
        exact s4 _ _ (sl1 _ _ (sm b' o e))
      · have h1 := (hLR.same (sl1.trans s4)).snoc hl2
        refine ⟨h1.1, fun i r' e => ?_⟩
        obtain ⟨x, f1, us', f2, f3⟩ := h1.2 i r' e
        have nx : x ≠ L := fun z => by
          have hm := List.mem_of_getElem? f1
          rcases List.mem_append.mp hm with y | y
          · exact hng _ y (by rw [z])
          · exact n2L ((V.ref.inj (List.mem_singleton.mp y)).symm.trans z)
        exact ⟨x, f1, us', by rw [upd_ne nx]; exact f2, f3.upd_lst eL4⟩
      · rcases List.mem_append.mp hv with z | z
        · exact hng v z
        · rw [List.mem_singleton.mp z]
          exact fun w => n2L (V.ref.inj w)
      · by_cases hi : i < ls.length
        · rw [List.getElem?_append_left hi] at el'
          exact htold i r' l' er' el'
        · rw [List.getElem?_append_right (by omega)] at el'
          have h0 : i - ls.length < 1 := (List.getElem?_eq_some_iff.mp el').1
          obtain rfl : i = ls.length := by omega
          rw [Nat.sub_self] at el'
          cases el'
          rw [hlj, er] at er'
          cases er'
          refine htl.cong fun n => ?_
          rw [inS_cons]
          exact ⟨fun ⟨z, y⟩ => ⟨z.elim id (fun w => absurd w inS_nil), y⟩, fun ⟨z, y⟩ => ⟨.inl z, y⟩⟩
    · obtain ⟨s1, us, ls, eL, hLR, hlj, hng, htold⟩ := hP
      rw [hlen] at hlj
      have lus : us.length = rs.length := by rw [hLR.1, hlj]
      -- which are empty
      have emp : ∀ (i : Nat) r l, rs[i]? = some r → ls[i]? = some l → (l.isEmpty = true ↔ allGB gs r = true) := fun i r l er el => by
        rw [List.isEmpty_iff, told_nil (htold i r l er el), allGB_iff]
        refine ⟨fun h n h1 h2 => ?_, fun h n ⟨⟨h1, h2⟩, h3⟩ => h3 (h n h1 h2)⟩
        exact Classical.byContradiction fun z => h n ⟨⟨h1, h2⟩, z⟩
      refine ⟨Nat.zero_le _, fun E0' nE => ?_⟩
      have sE := same_upd (o := .lst []) nE
      have dpL : ∀ {H' : Hp}, Same H1 H' → Dp K H' (.ref L) (.list (ls.map setD')) := fun s' => .lst (SqL.of (s' _ _ eL)) (dp_sets (hLR.same s'))
      refine ⟨_, rfl, .list [], ls.map setD', .lst (SqL.of upd_same) .nil, dpL sE, by rfl, shaped_sets ls, ?_⟩
      have ea' : ((ls.map setD').any fun z => PyData.eqv z (.list [])) = ls.any List.isEmpty := by
        rw [List.any_map]
        congr 1
        funext l
        exact eqv_set l
      rw [ea']
      refine ⟨_, rfl, ite2 (fun c1 => ?_) (fun c1 => ?_)⟩
      · -- one is gone whole
        have ex : ∃ l ∈ ls, List.isEmpty l = true := by
          obtain ⟨l, h1, h2⟩ := List.any_eq_true.mp c1
          exact ⟨l, h1, h2⟩
        have jl := List.findIdx_lt_length_of_exists ex
        have je := List.findIdx_getElem (p := List.isEmpty) (xs := ls) (w := jl)
        have jn : ∀ (m : Nat) l, m < ls.findIdx List.isEmpty → ls[m]? = some l → l.isEmpty = false := fun m l hm hl => by
          have := List.not_of_lt_findIdx hm
          obtain ⟨lt, e⟩ := List.getElem?_eq_some_iff.mp hl
          rw [← e]
          simpa using this
        revert jl je jn
        generalize ls.findIdx List.isEmpty = j
        intro jl je jn
        refine ⟨_, rfl, .inl ⟨rfl, _, SqL.of (sE _ _ eL)⟩, Nat.zero_le _, fun E1 nE1 => ?_⟩
        have sE1 := same_upd (o := .lst []) nE1
        refine ⟨L, .ref E1, .list [], ls.map setD', j, setD' ls[j], rfl, rfl, dpL (sE.trans sE1), .lst (SqL.of upd_same) .nil, shaped_sets ls, by rfl, by rw [List.getElem?_map, List.getElem?_eq_getElem jl]; rfl, by rw [eqv_set]; exact je, fun m z hm hz => ?_, (by show 2 ≤ sizeLine; decide), fun T nT => ?_⟩
        · rw [List.getElem?_map] at hz
          cases hl : ls[m]? with
          | none => rw [hl] at hz; cases hz
          | some l =>
            rw [hl] at hz
            cases hz
            rw [eqv_set]
            exact jn m l hm hl
        · have jr : j < rs.length := by omega
          have sT := same_upd (o := .tup [.str "blind", .int (j : Int)]) nT
          refine qb j rs[j] (List.getElem?_eq_getElem jr) ((emp j _ _ (List.getElem?_eq_getElem jr) (List.getElem?_eq_getElem jl)).mp je) (fun m r' hm hr' => ?_) _ T (TbL.of hT (((s1.trans sE).trans sE1).trans sT)) (fun b' o _ e => (((s1.trans sE).trans sE1).trans sT) b' o e) (((s1.trans sE).trans sE1).free nT) upd_same
          have ml : m < ls.length := by omega
          have := jn m _ hm (List.getElem?_eq_getElem ml)
          cases hg : allGB gs r' with
          | false => rfl
          | true =>
            rw [(emp m r' _ hr' (List.getElem?_eq_getElem ml)).mpr hg] at this
            cases this
      · -- none is
        have hne : ∀ l ∈ ls, l ≠ [] := fun l hl z => c1 (List.any_eq_true.mpr ⟨l, hl, by rw [z]; rfl⟩)
        have none : ∀ r ∈ rs, allGB gs r = false := fun r hr => by
          obtain ⟨m, hm⟩ := List.getElem?_of_mem hr
          have ml : m < ls.length := by rw [hlj]; exact (List.getElem?_eq_some_iff.mp hm).1
          cases hg : allGB gs r with
          | false => rfl
          | true =>
            have := (emp m r _ hm (List.getElem?_eq_getElem ml)).mpr hg
            rw [List.isEmpty_iff] at this
            exact absurd this (hne _ (List.getElem_mem ml))
        refine ⟨Nat.zero_le _, fun N nN => ⟨Nat.zero_le _, fun A2 nA2 => ?_⟩⟩
        have sN := same_upd (o := .lst []) nN
        have sA := same_upd (o := .lst []) nA2
        have s0 := ((s1.trans sE).trans sN).trans sA
        have eLa := ((sE.trans sN).trans sA) _ _ eL
        have hLRa := hLR.same ((sE.trans sN).trans sA)
        have nNA : N ≠ A2 := fun z => by
          have := upd_same (H := upd H1 E0' (.lst [])) (a := N) (o := .lst [])
          rw [← z, this] at nA2
          cases nA2
        refine ⟨_, rfl, L, us, rfl, .inl (SqL.of eLa), (rs.length : Int), by rw [lus], fun R nR => ?_⟩
        have sR := same_upd (o := .rng 0 (rs.length : Int)) nR
        refine ⟨hT.ext (s0.trans sR), R, rs.length, fun x => PyData.int (kI ls x), rfl, upd_same, by omega, ?_, ?_, ?_, ?_, ?_⟩
        · intro d1 h1 d2 h2
          obtain ⟨x1, _, rfl⟩ := List.mem_map.mp h1
          obtain ⟨x2, _, rfl⟩ := List.mem_map.mp h2
          rfl
        · refine .inr fun d1 h1 => ?_
          obtain ⟨x1, _, rfl⟩ := List.mem_map.mp h1
          exact ⟨(fun z => nomatch z), fun _ z => nomatch z⟩
        · intro x _
          show PyData.depth (PyData.int _) ≤ 8
          rw [PyData.depth]
          omega
        · intro x hx H2 tb
          obtain ⟨i, hi, rfl⟩ := List.mem_map.mp hx
          have hi := List.mem_range.mp hi
          obtain ⟨r, l, p, q, e1, e2, h1, h2, h3, h4, h5, h6⟩ := told_Lf hlj htold hne hi
          have hLR2 := (hLRa.same sR).tbl tb
          obtain ⟨m, f1, ms, em, pm'⟩ := hLR2.2 i l e2
          obtain ⟨T, g1, g2⟩ := pm'.2 (l.length - 1) q h2
          refine ⟨L, m, T, us, ms, _, (i : Int), q.2, rfl, rfl, SqL.of (tb.lst (sR _ _ eLa)), atI_nat f1, SqL.of em, ?_, .inl (.inl g2), atI_nat (j := 1) rfl, ?_⟩
          · exact atI_m1 (by rw [pm'.1]; exact g1)
          · show PyData.int (Lf ls (i : Int).toNat).2 = _
            rw [show ((i : Int).toNat) = i by omega, h3]
        · intro H2 p tb bt np
          obtain ⟨os, eo, ho, hol, hos⟩ := order_of ls rs.length
          rw [eo]
          have sp := same_upd (o := .lst (os.map fun i : Nat => V.int (i : Int))) np
          have tb2 := tb.trans (TbL.of tb.1 sp)
          have eLp := tb2.lst (sR _ _ eLa)
          have hLRp := (hLRa.same sR).tbl tb2
          have eNp := tb2.lst (sR _ _ (sA _ _ (upd_same (H := upd H1 E0' (.lst [])) (a := N) (o := .lst []))))
          have eAp := tb2.lst (sR _ _ (upd_same (H := upd (upd H1 E0' (.lst [])) N (.lst [])) (a := A2) (o := .lst [])))
          have epp : upd H2 p (.lst (os.map fun i : Nat => V.int (i : Int))) p = some (.lst (os.map fun i : Nat => V.int (i : Int))) := upd_same
          have hT2 := tb2.1
          have npN : p ≠ N := fun z => by rw [z, tb.lst (sR _ _ (sA _ _ (upd_same (H := upd H1 E0' (.lst [])) (a := N) (o := .lst []))))] at np; cases np
          have npA : p ≠ A2 := fun z => by rw [z, tb.lst (sR _ _ (upd_same (H := upd (upd H1 E0' (.lst [])) N (.lst [])) (a := A2) (o := .lst [])))] at np; cases np
          have nLN : L ≠ N := fun z => by rw [z] at eL; rw [sE _ _ eL] at nN; cases nN
          have nLA : L ≠ A2 := fun z => by rw [z] at eL; rw [sN _ _ (sE _ _ eL)] at nA2; cases nA2
          have tb0 : TbL Pt qL H (upd H2 p (.lst (os.map fun i : Nat => V.int (i : Int)))) := (TbL.of hT (s0.trans sR)).trans tb2
          have bt0 : ButAt Pt H (upd H2 p (.lst (os.map fun i : Nat => V.int (i : Int)))) := fun b' o nb e => sp _ _ (bt b' o nb (sR _ _ (s0 _ _ e)))
          have fN : H N = Option.none := (s1.trans sE).free nN
          have fA : H A2 = Option.none := ((s1.trans sE).trans sN).free nA2
          have oldN : ∀ b' o, H b' = some o → b' ≠ N ∧ b' ≠ A2 := fun b' o e => ⟨ne_of_none (sE _ _ (s1 _ _ e)) nN, ne_of_none (sN _ _ (sE _ _ (s1 _ _ e))) nA2⟩
          -- the sets' lists stay
          have offL : ∀ (i : Nat) l m, ls[i]? = some l → us[i]? = some (.ref m) → m ≠ N ∧ m ≠ A2 := fun i l m el em => by
            obtain ⟨m', f1, ms, f2, _⟩ := hLR.2 i l el
            rw [em] at f1
            cases f1
            exact ⟨ne_of_none (sE _ _ f2) nN, ne_of_none (sN _ _ (sE _ _ f2)) nA2⟩
          generalize upd H2 p (.lst (os.map fun i : Nat => V.int (i : Int))) = H3 at *
          refine ⟨p, rfl, ⟨_, SqL.of epp⟩, for_list (xs := os.map fun i : Nat => V.int (i : Int)) (fun i σ Hx => ∃ (ns : List Int) (ch : List Nat) (y4 y5 y6 y8 : Option V), σ = [some (.ref a), some (.ref b), some (.ref N), some (.ref A2), y4, y5, y6, some (.ref L), y8] ∧ grF (Lf ls) (os.take i) = (ns, ch) ∧ Gr (Lf ls) (os.take i) ns ch ∧ ch.length ≤ i ∧ Hx N = some (.lst (ns.map V.int)) ∧ Hx A2 = some (.lst ((ch.map fun i : Nat => (i : Int)).map V.int)) ∧ TabS Hx Pt qL ∧ ∀ b' o, b' ≠ N → b' ≠ A2 → H3 b' = some o → Hx b' = some o) ⟨[], [], _, _, _, _, rfl, rfl, Gr.nil _, Nat.le_refl _, eNp, eAp, hT2, fun _ _ _ _ e => e⟩ (fun i σ Hx _ hP => ?_) (fun i x σ Hx hx hP => ?_) (fun σ Hx hP => ?_)⟩
          · obtain ⟨ns, ch, y4, y5, y6, y8, rfl, hF, hG, hcl, eN, eA, hTx, kp⟩ := hP
            exact SqL.of (kp _ _ npN npA epp)
          · obtain ⟨ns, ch, y4, y5, y6, y8, rfl, hF, hG, hcl, eN, eA, hTx, kp⟩ := hP
            have hi : i < os.length := by
              have := (List.getElem?_eq_some_iff.mp hx).1
              rwa [List.length_map] at this
            have eoi : os[i]? = some os[i] := List.getElem?_eq_getElem hi
            rw [List.getElem?_map, eoi] at hx
            cases hx
            have lt : os[i] < rs.length := (ho _).mp (List.getElem_mem hi)
            obtain ⟨r, l, p0, q0, e1, e2, h1, h2, h3, h4, h5, h6⟩ := told_Lf hlj htold hne lt
            obtain ⟨m, f1, ms, em, pm'⟩ := hLRp.2 os[i] l e2
            obtain ⟨T0, g1, g2⟩ := pm'.2 0 p0 h1
            obtain ⟨T1, g3, g4⟩ := pm'.2 (l.length - 1) q0 h2
            obtain ⟨o1, o2⟩ := offL os[i] l m e2 f1
            have eLx := kp _ _ nLN nLA eLp
            have emx := kp _ _ o1 o2 em
            have tN : ∀ {T : Addr} {z : List V}, H3 T = some (.tup z) → T ≠ N ∧ T ≠ A2 := fun e => ⟨ne_of e eNp (fun z => nomatch z), ne_of e eAp (fun z => nomatch z)⟩
            have g2x := kp _ _ (tN g2).1 (tN g2).2 g2
            have g4x := kp _ _ (tN g4).1 (tN g4).2 g4
            refine ⟨_, rfl, _, rfl, L, _, (os[i] : Int), _, rfl, rfl, SqL.of eLx, atI_nat f1, m, _, 0, _, rfl, rfl, SqL.of emx, atI_nat (j := 0) g1, T0, _, 0, _, rfl, rfl, .inl (.inl g2x), atI_nat (j := 0) rfl, ?_⟩
            refine ⟨_, rfl, _, rfl, L, _, (os[i] : Int), _, rfl, rfl, SqL.of eLx, atI_nat f1, 1, rfl, m, _, -1, _, rfl, rfl, SqL.of emx, atI_m1 (by rw [pm'.1]; exact g3), T1, _, 1, _, rfl, rfl, .inl (.inl g4x), atI_nat (j := 1) rfl, _, _, rfl, ?_⟩
            have et : os.take (i + 1) = os.take i ++ [os[i]] := by rw [List.take_add_one, eoi]; rfl
            have L1 : (Lf ls os[i]).1 = p0.1 := by rw [h3]
            have L2' : (Lf ls os[i]).2 = q0.2 := by rw [h3]
            have le12 : (Lf ls os[i]).1 ≤ (Lf ls os[i]).2 := by
              rw [L1, L2']
              exact (h6 p0.1 h4).2
            have prev : ∀ j ∈ os.take i, (Lf ls j).2 ≤ (Lf ls os[i]).2 := fun j hj => by
              have hp := hos
              rw [← List.take_append_drop i os, List.pairwise_append] at hp
              exact hp.2.2 j hj _ (by rw [List.drop_eq_getElem_cons hi]; exact List.mem_cons_self ..)
            have app : (∀ e ∈ ns, e < (Lf ls os[i]).1) → ∃ (ns' : List Int) (ch' : List Nat) (y4 y5 y6 y8' : Option V), [some (V.ref a), some (.ref b), some (.ref N), some (.ref A2), some (.int (os[i] : Int)), some (.int p0.1), some (.int q0.2), some (.ref L), y8] = [some (.ref a), some (.ref b), some (.ref N), some (.ref A2), y4, y5, y6, some (.ref L), y8'] ∧ grF (Lf ls) (os.take (i + 1)) = (ns', ch') ∧ Gr (Lf ls) (os.take (i + 1)) ns' ch' ∧ ch'.length ≤ i + 1 ∧ upd (upd Hx N (.lst (ns.map V.int ++ [.int q0.2]))) A2 (.lst ((ch.map fun i : Nat => (i : Int)).map V.int ++ [.int (os[i] : Int)])) N = some (.lst (ns'.map V.int)) ∧ upd (upd Hx N (.lst (ns.map V.int ++ [.int q0.2]))) A2 (.lst ((ch.map fun i : Nat => (i : Int)).map V.int ++ [.int (os[i] : Int)])) A2 = some (.lst ((ch'.map fun i : Nat => (i : Int)).map V.int)) ∧ TabS (upd (upd Hx N (.lst (ns.map V.int ++ [.int q0.2]))) A2 (.lst ((ch.map fun i : Nat => (i : Int)).map V.int ++ [.int (os[i] : Int)]))) Pt qL ∧ ∀ b' o, b' ≠ N → b' ≠ A2 → H3 b' = some o → upd (upd Hx N (.lst (ns.map V.int ++ [.int q0.2]))) A2 (.lst ((ch.map fun i : Nat => (i : Int)).map V.int ++ [.int (os[i] : Int)])) b' = some o := fun lt' => by
              refine ⟨ns ++ [q0.2], ch ++ [os[i]], _, _, _, _, rfl, ?_, ?_, by rw [List.length_append]; show ch.length + 1 ≤ _; omega, ?_, ?_, ?_, fun b' o b1 b2 e => ?_⟩
              · rw [et, grF_snoc, hF]
                show (if _ then _ else _) = _
                rw [if_pos lt', L2']
              · rw [et, ← L2']
                exact hG.take le12 lt'
              · rw [upd_ne nNA, upd_same, List.map_append]
                rfl
              · rw [upd_same, List.map_append, List.map_append]
                rfl
              · exact TabS.upd (xs := (ch.map fun i : Nat => (i : Int)).map V.int) (TabS.upd hTx eN) (by rw [upd_ne nNA.symm]; exact eA)
              · rw [upd_ne b2, upd_ne b1]
                exact kp b' o b1 b2 e
            have skip : ∀ e ∈ ns, (Lf ls os[i]).1 ≤ e → ∃ (ns' : List Int) (ch' : List Nat) (y4 y5 y6 y8' : Option V), [some (V.ref a), some (.ref b), some (.ref N), some (.ref A2), some (.int (os[i] : Int)), some (.int p0.1), some (.int q0.2), some (.ref L), y8] = [some (.ref a), some (.ref b), some (.ref N), some (.ref A2), y4, y5, y6, some (.ref L), y8'] ∧ grF (Lf ls) (os.take (i + 1)) = (ns', ch') ∧ Gr (Lf ls) (os.take (i + 1)) ns' ch' ∧ ch'.length ≤ i + 1 ∧ Hx N = some (.lst (ns'.map V.int)) ∧ Hx A2 = some (.lst ((ch'.map fun i : Nat => (i : Int)).map V.int)) ∧ TabS Hx Pt qL ∧ ∀ b' o, b' ≠ N → b' ≠ A2 → H3 b' = some o → Hx b' = some o := fun e he hle => ⟨ns, ch, _, _, _, _, rfl, by rw [et, grF_snoc, hF]; show (if _ then _ else _) = _; rw [if_neg (fun z => by have := z e he; omega)], by rw [et]; exact hG.skip prev he hle, by omega, eN, eA, hTx, kp⟩
            have lns : ns.length = ch.length := by rw [hG.map, List.length_map]
            refine ⟨_, rfl, _, .inl ⟨_, SqL.of eN, rfl⟩, ?_⟩
            have eA' : upd Hx N (.lst (ns.map V.int ++ [.int q0.2])) A2 = some (.lst ((ch.map fun i : Nat => (i : Int)).map V.int)) := by rw [upd_ne nNA.symm]; exact eA
            have sm1 : (ns.map V.int).length < sizeLine := small1000 (by rw [List.length_map]; omega)
            have sm2 : ((ch.map fun i : Nat => (i : Int)).map V.int).length < sizeLine := small1000 (by rw [List.length_map, List.length_map]; omega)
            refine ite2 (fun c2 => ite2 (fun _ => ?_) (fun z => absurd rfl z)) (fun c2 => ?_)
            · have c2 : (!(!(ns.map V.int).isEmpty)) = true := c2
              have n0 : ns = [] := by
                cases ns with
                | nil => rfl
                | cons => simp at c2
              exact ⟨_, rfl, .inl ⟨rfl, _, SqL.of eN⟩, _, rfl, N, _, _, rfl, rfl, eN, sm1, _, rfl, .inl ⟨rfl, _, SqL.of eA'⟩, _, rfl, A2, _, _, rfl, rfl, eA', sm2, app (fun e he => by rw [n0] at he; cases he)⟩
            · have c2 : ¬ (!(!(ns.map V.int).isEmpty)) = true := c2
              have n0 : ns ≠ [] := fun z => c2 (by rw [z]; rfl)
              obtain ⟨ns0, e0, e0e⟩ : ∃ ns0 e0, ns = ns0 ++ [e0] := ⟨_, _, (List.dropLast_concat_getLast n0).symm⟩
              have at0 : atI (ns.map V.int) (-1) = some (.int e0) := by
                rw [e0e, List.map_append]
                exact atI_last _ _
              have mx : ∀ e ∈ ns, e ≤ e0 := fun e he => by
                have hi' := hG.inc
                rw [e0e, List.pairwise_append] at hi'
                rw [e0e] at he
                rcases List.mem_append.mp he with z | z
                · exact Int.le_of_lt (hi'.2.2 e z e0 (List.mem_singleton.mpr rfl))
                · rw [List.mem_singleton.mp z]; exact Int.le_refl _
              refine ⟨_, rfl, 1, rfl, N, _, -1, _, rfl, rfl, SqL.of eN, at0, _, rfl, _, _, rfl, rfl, _, rfl, ite2 (fun c3 => ?_) (fun c3 => ?_)⟩
              · have lt3 : e0 < p0.1 := of_decide_eq_true c3
                exact ⟨_, rfl, .inl ⟨rfl, _, SqL.of eN⟩, _, rfl, N, _, _, rfl, rfl, eN, sm1, _, rfl, .inl ⟨rfl, _, SqL.of eA'⟩, _, rfl, A2, _, _, rfl, rfl, eA', sm2, app (fun e he => by have := mx e he; rw [L1]; omega)⟩
              · have le3 : p0.1 ≤ e0 := by
                  have : ¬ e0 < p0.1 := fun z => c3 (decide_eq_true z)
                  omega
                exact skip e0 (by rw [e0e]; exact List.mem_append_right _ (List.mem_singleton.mpr rfl)) (by rw [L1]; exact le3)
          · obtain ⟨ns, ch, y4, y5, y6, y8, rfl, hF, hG, hcl, eN, eA, hTx, kp⟩ := hP
            rw [List.length_map, List.take_length] at hG hF
            refine ⟨_, rfl, _, rfl, A2, _, rfl, SqL.of eA, fun ns' p' pm srt np' => ⟨(by show 3 ≤ sizeLine; decide), fun T nT => ?_⟩⟩
            have s5 := same_upd (o := .lst (ns'.map V.int)) np'
            have s6 := same_upd (o := .tup [.str "samples", .ref N, .ref p']) nT
            have bt5 : ButAt Pt H Hx := fun b' o nb e => kp b' o (oldN b' o e).1 (oldN b' o e).2 (bt0 b' o nb e)
            have npN' : N ≠ p' := fun z => by rw [← z, eN] at np'; cases np'
            refine qs none _ T N p' ns ns' ⟨hTx.ext (s5.trans s6), fun b' o e nt => s6 _ _ (s5 _ _ (kp b' o (oldN b' o e).1 (oldN b' o e).2 (tb0.2 b' o e nt)))⟩ (fun b' o nb e => s6 _ _ (s5 _ _ (bt5 b' o nb e))) (but_free (hTx.ext s5) (fun b' o nb e => s5 _ _ (bt5 b' o nb e)) nT) upd_same (s6 _ _ (s5 _ _ eN)) (s6 _ _ upd_same) npN' fN (but_free hTx bt5 np') ⟨⟨ls, os, ch, hlj, htold, hne, eo, fun i => ho i, hF, hG, pm, srt⟩⟩
end

/-! ### dues: as much as any choice of places costs -/
abbrev inR (r : Int × Int) (p : Int) : Prop := r.1 ≤ p ∧ p ≤ r.2
/-- what is left behind a due -/
def subF (left : Int → Int) (r : Int × Int) (d : Int) : Int → Int := fun p => if inR r p then left p - d else left p
/-- each due is the least that is left in its run -/
def Greedy : (Int → Int) → List ((Int × Int) × Int) → Prop
  | _, [] => True
  | left, (r, d) :: l => (∃ p, inR r p ∧ left p = d) ∧ (∀ p, inR r p → d ≤ left p) ∧ Greedy (subF left r d) l
theorem sub_nn {left : Int → Int} {r : Int × Int} {d : Int} {B : Int → Prop} (h : ∀ p, inR r p → d ≤ left p) (h0 : ∀ p, B p → 0 ≤ left p) : ∀ p, B p → 0 ≤ subF left r d p := fun p hp => by
  unfold subF
  split
  · rename_i c
    have := h p c
    omega
  · exact h0 p hp
theorem costF_cons' (pr : Int → Int) (x : Int) (l : List Int) : costF pr (x :: l) = pr x + costF pr l := rfl
/-- those of no run cost the same -/
theorem cost_out {left : Int → Int} {r : Int × Int} {d : Int} : ∀ {l : List Int}, (∀ p ∈ l, ¬ inR r p) → costF (subF left r d) l = costF left l
  | [], _ => rfl
  | x :: l, h => by
    rw [costF_cons', costF_cons', cost_out fun p hp => h p (List.mem_cons_of_mem _ hp)]
    unfold subF
    rw [if_neg (h x (List.mem_cons_self ..))]
theorem cost_part {left : Int → Int} {r : Int × Int} {q : Int} (hq : inR r q) : ∀ {l : List Int}, (∀ p ∈ l, 0 ≤ left p) → q ∈ l → costF left (l.filter fun p => !decide (inR r p)) + left q ≤ costF left l
  | [], _, h => nomatch h
  | x :: l, h0, h => by
    have hx := h0 x (List.mem_cons_self ..)
    have tl : ∀ {l : List Int}, (∀ p ∈ l, 0 ≤ left p) → costF left (l.filter fun p => !decide (inR r p)) ≤ costF left l := by
      intro l
      induction l with
      | nil => exact fun _ => Int.le_refl _
      | cons y l ih =>
        intro h
        have hy := h y (List.mem_cons_self ..)
        have := ih fun p hp => h p (List.mem_cons_of_mem _ hp)
        rw [List.filter_cons]
        split
        · rw [costF_cons', costF_cons']; omega
        · rw [costF_cons']; omega
    rw [List.filter_cons]
    by_cases c : inR r x
    · rw [if_neg (by rw [decide_eq_true c]; decide), costF_cons']
      rcases List.mem_cons.mp h with z | z
      · rw [← z]
        have := tl fun p hp => h0 p (List.mem_cons_of_mem _ hp)
        omega
      · have := cost_part hq (fun p hp => h0 p (List.mem_cons_of_mem _ hp)) z
        omega
    · rw [if_pos (by rw [decide_eq_false c]; rfl), costF_cons', costF_cons']
      have z : q ∈ l := (List.mem_cons.mp h).elim (fun e => absurd (e ▸ hq) c) id
      have := cost_part hq (fun p hp => h0 p (List.mem_cons_of_mem _ hp)) z
      omega
theorem max_in {r : Int × Int} : ∀ {l : List Int}, (∃ p ∈ l, inR r p) → ∃ q ∈ l, inR r q ∧ ∀ p ∈ l, inR r p → p ≤ q
  | [], h => by obtain ⟨_, hp, _⟩ := h; cases hp
  | x :: l, h => by
    by_cases c : ∃ p ∈ l, inR r p
    · obtain ⟨q, h1, h2, h3⟩ := max_in c
      by_cases cx : inR r x ∧ q < x
      · refine ⟨x, List.mem_cons_self .., cx.1, fun p hp hpr => ?_⟩
        rcases List.mem_cons.mp hp with z | z
        · omega
        · have := h3 p z hpr; omega
      · refine ⟨q, List.mem_cons_of_mem _ h1, h2, fun p hp hpr => ?_⟩
        rcases List.mem_cons.mp hp with z | z
        · rw [z] at hpr ⊢
          by_cases w : q < x
          · exact absurd ⟨hpr, w⟩ cx
          · omega
        · exact h3 p z hpr
    · obtain ⟨p, hp, hpr⟩ := h
      rcases List.mem_cons.mp hp with z | z
      · refine ⟨x, List.mem_cons_self .., z ▸ hpr, fun p' hp' hpr' => ?_⟩
        rcases List.mem_cons.mp hp' with w | w
        · omega
        · exact absurd ⟨p', w, hpr'⟩ c
      · exact absurd ⟨p, z, hpr⟩ c
def duesF (l : List ((Int × Int) × Int)) : Int := (l.map (·.2)).sum
/-- runs by their ends: some places cost no more than the dues -/
theorem dual : ∀ {l : List ((Int × Int) × Int)} {left : Int → Int} {B : Int → Prop}, (∀ x ∈ l, ∀ p, inR x.1 p → B p) → (∀ p, B p → 0 ≤ left p) → (l.map (·.1.2)).Pairwise (· ≤ ·) → Greedy left l →
    ∃ S : List Int, (∀ x ∈ l, ∃ p ∈ S, inR x.1 p) ∧ (∀ p ∈ S, B p) ∧ costF left S ≤ duesF l
  | [], left, B, _, _, _, _ => ⟨[], (fun _ h => nomatch h), (fun _ h => nomatch h), Int.le_refl _⟩
  | (r, d) :: l, left, B, hB, h0, hs, hg => by
    obtain ⟨⟨p0, hp0, e0⟩, hmin, hg'⟩ := hg
    rw [List.map_cons, List.pairwise_cons] at hs
    have nn := sub_nn (B := B) hmin h0
    obtain ⟨S, h1, h2, h3⟩ := dual (B := B) (fun x hx => hB x (List.mem_cons_of_mem _ hx)) nn hs.2 hg'
    have ed : duesF ((r, d) :: l) = d + duesF l := rfl
    by_cases c : ∃ p ∈ S, inR r p
    · obtain ⟨q, q1, q2, q3⟩ := max_in c
      have hq := cost_part q2 (fun p hp => nn p (h2 p hp)) q1
      have ho : costF (subF left r d) (S.filter fun p => !decide (inR r p)) = costF left (S.filter fun p => !decide (inR r p)) := cost_out fun p hp z => by
        have := (List.mem_filter.mp hp).2
        rw [decide_eq_true z] at this
        cases this
      have eq : subF left r d q = left q - d := if_pos q2
      refine ⟨q :: S.filter fun p => !decide (inR r p), fun x hx => ?_, fun p hp => ?_, ?_⟩
      · rcases List.mem_cons.mp hx with z | z
        · rw [z]; exact ⟨q, List.mem_cons_self .., q2⟩
        · obtain ⟨p, hp, hpx⟩ := h1 x z
          by_cases cp : inR r p
          · have := q3 p hp cp
            have hxl : r.2 ≤ x.1.2 := hs.1 _ (List.mem_map_of_mem (f := fun x : (Int × Int) × Int => x.1.2) z)
            exact ⟨q, List.mem_cons_self .., by have := hpx.1; omega, by have := q2.2; omega⟩
          · exact ⟨p, List.mem_cons_of_mem _ (List.mem_filter.mpr ⟨hp, by rw [decide_eq_false cp]; rfl⟩), hpx⟩
      · rcases List.mem_cons.mp hp with z | z
        · rw [z]; exact h2 q q1
        · exact h2 p (List.mem_filter.mp z).1
      · rw [costF_cons', ed]
        omega
    · have ho : costF (subF left r d) S = costF left S := cost_out fun p hp z => c ⟨p, hp, z⟩
      refine ⟨p0 :: S, fun x hx => ?_, fun p hp => ?_, ?_⟩
      · rcases List.mem_cons.mp hx with z | z
        · rw [z]; exact ⟨p0, List.mem_cons_self .., hp0⟩
        · obtain ⟨p, hp, hpx⟩ := h1 x z
          exact ⟨p, List.mem_cons_of_mem _ hp, hpx⟩
      · rcases List.mem_cons.mp hp with z | z
        · rw [z]; exact hB _ (List.mem_cons_self ..) _ hp0
        · exact h2 p z
      · rw [costF_cons', ed]
        omega
/-- what a place has to pay -/
def paidF (l : List ((Int × Int) × Int)) (p : Int) : Int := (l.map fun x => if inR x.1 p then x.2 else 0).sum
theorem greedy_left : ∀ {l : List ((Int × Int) × Int)} {left : Int → Int} {B : Int → Prop}, (∀ x ∈ l, ∀ p, inR x.1 p → B p) → (∀ p, B p → 0 ≤ left p) → Greedy left l → (∀ x ∈ l, 0 ≤ x.2) ∧ ∀ p, B p → paidF l p ≤ left p
  | [], left, B, _, h0, _ => ⟨(fun _ h => nomatch h), h0⟩
  | (r, d) :: l, left, B, hB, h0, hg => by
    obtain ⟨⟨p0, hp0, e0⟩, hmin, hg'⟩ := hg
    obtain ⟨h1, h2⟩ := greedy_left (B := B) (fun x hx => hB x (List.mem_cons_of_mem _ hx)) (sub_nn hmin h0) hg'
    refine ⟨fun x hx => ?_, fun p hp => ?_⟩
    · rcases List.mem_cons.mp hx with z | z
      · rw [z]
        show 0 ≤ d
        rw [← e0]
        exact h0 p0 (hB _ (List.mem_cons_self ..) _ hp0)
      · exact h1 x z
    · have := h2 p hp
      have e : paidF ((r, d) :: l) p = (if inR r p then d else 0) + paidF l p := rfl
      rw [e]
      unfold subF at this
      split at this
      · rename_i c; rw [if_pos c]; omega
      · rename_i c; rw [if_neg c]; omega
theorem Greedy.snoc : ∀ {l : List ((Int × Int) × Int)} {left : Int → Int} {r : Int × Int} {d : Int}, Greedy left l → (∃ p, inR r p ∧ left p - paidF l p = d) → (∀ p, inR r p → d ≤ left p - paidF l p) → Greedy left (l ++ [(r, d)])
  | [], left, r, d, _, h1, h2 => ⟨by obtain ⟨p, a, b⟩ := h1; exact ⟨p, a, by have : paidF [] p = 0 := rfl; omega⟩, fun p hp => by have := h2 p hp; have : paidF [] p = 0 := rfl; omega, trivial⟩
  | (r0, d0) :: l, left, r, d, hg, h1, h2 => by
    obtain ⟨g1, g2, g3⟩ := hg
    have e : ∀ p, subF left r0 d0 p - paidF l p = left p - paidF ((r0, d0) :: l) p := fun p => by
      have e : paidF ((r0, d0) :: l) p = (if inR r0 p then d0 else 0) + paidF l p := rfl
      rw [e]
      unfold subF
      split <;> omega
    exact ⟨g1, g2, g3.snoc (by obtain ⟨p, a, b⟩ := h1; exact ⟨p, a, by rw [e]; exact b⟩) fun p hp => by rw [e]; exact h2 p hp⟩
theorem paid_snoc (l : List ((Int × Int) × Int)) (r : Int × Int) (d p : Int) : paidF (l ++ [(r, d)]) p = paidF l p + if inR r p then d else 0 := by
  unfold paidF
  rw [List.map_append, List.sum_append]
  simp

theorem preSum_list {f : Int → Int} {l : List Int} {v : Nat → Int} (h : ∀ (i : Nat) p, l[i]? = some p → v i = f p) : ∀ n, n ≤ l.length → preSum v n = costF f (l.take n)
  | 0, _ => by rw [List.take_zero]; rfl
  | n + 1, hn => by
    have e : l[n]? = some l[n] := List.getElem?_eq_getElem (by omega)
    have hv := h n _ e
    show preSum v n + v n = _
    rw [preSum_list h n (by omega), List.take_add_one, e, hv]
    unfold costF
    rw [List.map_append, List.sum_append]
    simp

/-! ### zip of a list and a tuple -/
def ItzM (K : PySem.W.Frag) (a b : Addr) : It :=
  ⟨fun i H => ∃ (xs ys : List V) (x y : V), SqL K H a xs ∧ SqT K H b ys ∧ xs[i]? = some x ∧ ys[i]? = some y,
    fun i H v H' => ∃ T x y, v = .ref T ∧ H T = none ∧ H' = upd H T (.tup [x, y]) ∧ (∀ xs, SqL K H a xs → xs[i]? = some x) ∧ ∀ ys, SqT K H b ys → ys[i]? = some y,
    fun i H => ∃ xs ys : List V, SqL K H a xs ∧ SqT K H b ys ∧ i ≤ xs.length ∧ i ≤ ys.length ∧ (i = xs.length ∨ i = ys.length)⟩
theorem turn_zipM {P : Program} {w : World} {K : PySem.W.Frag} {elts : List Expr} {kk : Nat} {tpos : Pos} {a b z TI TO i1 i2 : Addr} (D : ZipSep2 z TI TO i1 i2 [i1, a] [i2, b]) (n1 : a ≠ i1) (n2 : b ≠ i2) :
    Turn P w K (.Tuple elts kk tpos) (ItzM K a b) [z, TI, TO, i1, i2] z (fun i h => IsZip h z TI TO .none ∧ IsTupOf2 h TI (.ref i1) (.ref i2) ∧ (∃ x y, IsTupOf2 h TO x y) ∧ h.IsListIter i1 a i ∧ h.IsTupleIter i2 b i) where
  mem := by simp
  obj := fun i h st c hc => by
    obtain ⟨hz, hTI, ⟨x, y, hTO⟩, ⟨o1, e1, _, d1⟩, ⟨o2, e2, _, d2⟩⟩ := st
    have e' : c = z ∨ c = TI ∨ c = TO ∨ c = i1 ∨ c = i2 := by simpa using hc
    rcases e' with q | q | q | q | q
    · rw [q]; exact ⟨_, hz, fun v q => nomatch q⟩
    · rw [q]; exact ⟨_, hTI, fun v q => nomatch q⟩
    · rw [q]; exact ⟨_, hTO, fun v q => nomatch q⟩
    · rw [q]; exact ⟨o1, e1, fun v q => by rw [d1] at q; cases q⟩
    · rw [q]; exact ⟨o2, e2, fun v q => by rw [d2] at q; cases q⟩
  keep := fun i h h' st k => by
    obtain ⟨hz, hTI, ⟨x, y, hTO⟩, h1, h2⟩ := st
    exact ⟨k z (by simp) _ hz, k TI (by simp) _ hTI, ⟨x, y, k TO (by simp) _ hTO⟩, h1.at fun o q => k i1 (by simp) o q, h2.at fun o q => k i2 (by simp) o q⟩
  item := by
    intro X hP hw hK hc i pins s σ H E I hf st hg
    subst hP hw hK
    obtain ⟨hz, hTI, ⟨x0, y0, hTO⟩, h1, h2⟩ := st
    obtain ⟨xs, ys, x, y, hqx, hqy, hx, hy⟩ := hg
    obtain ⟨its, rv, p, _⟩ := I.list hqx
    obtain ⟨its2, rv2, p2, _⟩ := I.tuple hqy
    obtain ⟨u, hu, ru⟩ := rv.get hx
    obtain ⟨u2, hu2, ru2⟩ := rv2.get hy
    have hui : its.toArray[i]? = some u := by simpa using hu
    have hui2 : its2.toArray[i]? = some u2 := by simpa using hu2
    have hzl : z < s.heap.objs.size := Heap.lt_size hz
    have D1 := Draws.list (prog := X.prog) (w := X.w) (A := X.A.in1) (I.ok.hd hc) i1 a n1 its.toArray
    have D2 := Draws.tuple (prog := X.prog) (w := X.w) (A := X.A.in1) (I.ok.hd hc) i2 b n2 its2.toArray
    refine wpAny_pyNext_zipD2_item D D1 D2 hz hTI hTO ⟨h1, p.isList⟩ ⟨h2, p2⟩ (Array.getElem?_eq_some_iff.mp hui).1 (Array.getElem?_eq_some_iff.mp hui2).1 fun v1 v2 h' tk e1 e2 z' TO' h1' h2' hT hsz hk => ?_
    have ev1 : u = v1 := Option.some.inj (hui.symm.trans e1)
    have ev2 : u2 = v2 := Option.some.inj (hui2.symm.trans e2)
    subst ev1 ev2
    refine ⟨_, rfl, wpAny_letOwnedTupleGo_zip (s := { s with heap := h', toks := tk }) z' fun h'' z'' sb => ?_⟩
    have hT2 : h''.get? s.heap.objs.size = some { cls := .type "tuple", data := .seq #[u, u2] } := (sb.2 _ (Nat.ne_of_gt hzl)).trans hT
    have new : ObjOk X.prog X.w (upd H s.heap.objs.size (.tup [x, y])) h'' s.heap.objs.size (.tup [x, y]) :=
      ⟨by show 2 ≤ sizeLine; decide, [u, u2], .cons ru (.cons ru2 .nil), ⟨_, hT2, rfl, _, rfl⟩⟩
    have I1 : Inv X pins σ (upd H s.heap.objs.size (.tup [x, y])) { s with heap := h'', toks := tk } :=
      I.turnedNew (t' := tk) (ch := [z, TI, TO, i1, i2]) (fun c o hb q => (sb.2 c (fun q' => hb (by simp [q']))).trans (hk c o (fun q' => hb (by simp [q'])) (fun q' => hb (by simp [q'])) (fun q' => hb (by simp [q'])) (fun q' => hb (by simp [q'])) q)) hf (Nat.le_refl _) new
    refine ⟨.ref s.heap.objs.size, _, I1, rfl, ⟨_, x, y, rfl, I.hok.fresh (Nat.le_refl _), rfl, fun l hl => by rw [I.list_inj hl hqx]; exact hx, fun l hl => by rw [I.tuple_inj hl hqy]; exact hy⟩, ⟨z'', ?_, ⟨u, u2, ?_⟩, ?_, ?_⟩, fun c hcm => ?_⟩
    · exact (sb.2 _ D.TIz).trans (hk _ _ D.TIz D.TITO D.TIi1 D.TIi2 hTI)
    · exact (sb.2 _ D.TOz).trans TO'
    · exact h1'.1.at fun o q => (sb.2 _ D.zi1.symm).trans q
    · exact h2'.1.at fun o q => (sb.2 _ D.zi2.symm).trans q
    · have hlt : c < s.heap.objs.size := by
        have e' : c = z ∨ c = TI ∨ c = TO ∨ c = i1 ∨ c = i2 := by simpa using hcm
        rcases e' with q | q | q | q | q
        · rw [q]; exact hzl
        · rw [q]; exact Heap.lt_size hTI
        · rw [q]; exact Heap.lt_size hTO
        · rw [q]; obtain ⟨_, e1, _⟩ := h1; exact Heap.lt_size e1
        · rw [q]; obtain ⟨_, e2, _⟩ := h2; exact Heap.lt_size e2
      rw [upd_ne (Nat.ne_of_lt hlt)]
      exact (hf c hcm).1
  done := by
    intro X hP hw hK hc i pins s σ H E I hf st hg
    subst hP hw hK
    obtain ⟨hz, hTI, ⟨x0, y0, hTO⟩, h1, h2⟩ := st
    obtain ⟨xs, ys, hqx, hqy, g1, g2, hend⟩ := hg
    obtain ⟨its, rv, p, _⟩ := I.list hqx
    obtain ⟨its2, rv2, p2, _⟩ := I.tuple hqy
    have l1 : its.toArray.size = xs.length := by rw [List.size_toArray, rv.length]
    have l2 : its2.toArray.size = ys.length := by rw [List.size_toArray, rv2.length]
    have D1 := Draws.list (prog := X.prog) (w := X.w) (A := X.A.in1) (I.ok.hd hc) i1 a n1 its.toArray
    have D2 := Draws.tuple (prog := X.prog) (w := X.w) (A := X.A.in1) (I.ok.hd hc) i2 b n2 its2.toArray
    exact wpAny_pyNext_zipD2_end D D1 D2 hz hTI hTO ⟨h1, p.isList⟩ ⟨h2, p2⟩ (by omega) (by omega) (by omega) fun h' tk hk => ⟨rfl, I.turnedL (t' := tk) (ch := [z, TI, TO, i1, i2]) (fun c o hb q =>
      hk c o (fun q' => hb (by simp [q'])) (fun q' => hb (by simp [q'])) (fun q' => hb (by simp [q'])) (fun q' => hb (by simp [q'])) q) hf⟩
  self := fun A i s Q E st h => wpAny_pyIter_zip st.1 h
def iZipM (K : PySem.W.Frag) (ta : TA) : TI := fun σ H R => ta σ H fun vs H1 => ∃ a b xs ys, vs = [.ref a, .ref b] ∧ ((SqL K H1 a xs ∧ SqL K H1 b ys ∧ R (Itz K a b) H1) ∨ (SqL K H1 a xs ∧ SqT K H1 b ys ∧ R (ItzM K a b) H1))
theorem pi_zipM {X : Cx} {e e2 : Expr} {ta : TA} {p pos tpos : Pos} {elts : List Expr} {kk : Nat} (hg : Gl X "zip") (hm : X.mg "zip" = none) (ha : PA X [e, e2] ta)
    (hs : starEach [e, e2] X.env = (false, eval e X.env) :: starEach [e2] X.env := by rfl) (hpl : (backTo pos (starEach [e2] X.env)).any (·.1) = false := by rfl) :
    PI X (.Tuple elts kk tpos) (.Call (.Name "zip" p) [e, e2] [] pos) (iZipM X.K ta) := by
  refine ⟨fun pins s σ H R I h => ?_⟩
  refine Call_ (ld_blt I hg hm PyProof.Rows.boot_zip (PyProof.Rows.callWith_type1 (thn (ha.run pos pins s σ H _ I h) fun us s1 ⟨vs, H1, I1, r1, q1⟩ => ?_) hs hpl))
  obtain ⟨a, b, xs, ys, ex, q1⟩ := q1
  subst ex
  cases r1 with
  | cons r rr =>
    cases rr with
    | cons r' rr =>
      cases rr
      cases r
      cases r'
      have fresh5 : ∀ c, c ∈ [s1.heap.objs.size + 4, s1.heap.objs.size + 2, s1.heap.objs.size + 3, s1.heap.objs.size, s1.heap.objs.size + 1] → FpOk X pins H1 c := fun c hcm => by
        have e' : c = s1.heap.objs.size + 4 ∨ c = s1.heap.objs.size + 2 ∨ c = s1.heap.objs.size + 3 ∨ c = s1.heap.objs.size ∨ c = s1.heap.objs.size + 1 := by simpa using hcm
        have hle : s1.heap.objs.size ≤ c := by
          rcases e' with z | z | z | z | z
          · rw [z]; exact Nat.le_add_right _ _
          · rw [z]; exact Nat.le_add_right _ _
          · rw [z]; exact Nat.le_add_right _ _
          · rw [z]; exact Nat.le_refl _
          · rw [z]; exact Nat.le_add_right _ _
        exact I1.fpOk hle (I1.hok.fresh hle)
      rcases q1 with ⟨hqx, hqy, q⟩ | ⟨hqx, hqy, q⟩
      · obtain ⟨its, rv, p1, _⟩ := I1.list hqx
        obtain ⟨its2, rv2, p2, _⟩ := I1.list hqy
        refine call_zip_2 p1.isList p2.isList fun h' hz hTI hTO h1 h2 hsz hk => wpAny_pyIter_zip hz ?_
        have I2 : Inv X pins σ H1 { s1 with heap := h' } := I1.kept (t' := s1.toks) hk
        exact ⟨s1.heap.objs.size + 4, [s1.heap.objs.size + 4, s1.heap.objs.size + 2, s1.heap.objs.size + 3, s1.heap.objs.size, s1.heap.objs.size + 1], _, _, H1, rfl, I2, turn_zip (PySem.W.ktu_apart s1.heap.objs.size a b p1.lt p2.lt), ⟨hz, hTI, ⟨_, _, hTO⟩, h1, h2⟩, fresh5, q⟩
      · obtain ⟨its, rv, p1, _⟩ := I1.list hqx
        obtain ⟨its2, rv2, p2, _⟩ := I1.tuple hqy
        have la : a < s1.heap.objs.size := p1.lt
        have lb : b < s1.heap.objs.size := let ⟨_, ho, _⟩ := id p2; Heap.lt_size ho
        refine zip_begins2 (begins_list a its.toArray) (begins_tuple b its2.toArray) p1.isList p2 fun h' hz hTI hTO h1 h2 hsz hk => wpAny_pyIter_zip hz ?_
        have I2 : Inv X pins σ H1 { s1 with heap := h' } := I1.kept (t' := s1.toks) hk
        exact ⟨s1.heap.objs.size + 4, [s1.heap.objs.size + 4, s1.heap.objs.size + 2, s1.heap.objs.size + 3, s1.heap.objs.size, s1.heap.objs.size + 1], _, _, H1, rfl, I2, turn_zipM (zip_sep2 (N := s1.heap.objs.size) (fun c hc => by rw [List.mem_singleton.mp hc]; exact la) (fun c hc => by rw [List.mem_singleton.mp hc]; exact lb)) (Nat.ne_of_lt la) (Nat.ne_of_lt (Nat.lt_succ_of_lt lb)), ⟨hz, hTI, ⟨_, _, hTO⟩, ⟨_, h1, rfl, rfl⟩, ⟨_, h2, rfl, rfl⟩⟩, fresh5, q⟩
theorem walk_zipM {K : PySem.W.Frag} {a b : Addr} {xs ys : List V} (hl : xs.length = ys.length) : Walk (ItzM K a b) xs.length (fun H => SqL K H a xs ∧ SqT K H b ys) (YPair (fun i => xs[i]?) (fun i => ys[i]?)) where
  goes := fun i _ hi q => ⟨xs, ys, xs[i], ys[i]'(hl ▸ hi), q.1, q.2, List.getElem?_eq_getElem hi, List.getElem?_eq_getElem (hl ▸ hi)⟩
  stops := fun _ q => ⟨xs, ys, q.1, q.2, Nat.le_refl _, Nat.le_of_eq hl, .inl rfl⟩
  yields := fun i H v H' _ q ⟨T, x, y, h1, h2, h3, h4, h5⟩ => ⟨T, x, y, h1, h2, h3, h4 xs q.1, h5 ys q.2⟩
/-! ### zip of a tuple and a list -/
def ItzN (K : PySem.W.Frag) (a b : Addr) : It :=
  ⟨fun i H => ∃ (xs ys : List V) (x y : V), SqT K H a xs ∧ SqL K H b ys ∧ xs[i]? = some x ∧ ys[i]? = some y,
    fun i H v H' => ∃ T x y, v = .ref T ∧ H T = none ∧ H' = upd H T (.tup [x, y]) ∧ (∀ xs, SqT K H a xs → xs[i]? = some x) ∧ ∀ ys, SqL K H b ys → ys[i]? = some y,
    fun i H => ∃ xs ys : List V, SqT K H a xs ∧ SqL K H b ys ∧ i ≤ xs.length ∧ i ≤ ys.length ∧ (i = xs.length ∨ i = ys.length)⟩
theorem turn_zipN {P : Program} {w : World} {K : PySem.W.Frag} {elts : List Expr} {kk : Nat} {tpos : Pos} {a b z TI TO i1 i2 : Addr} (D : ZipSep2 z TI TO i1 i2 [i1, a] [i2, b]) (n1 : a ≠ i1) (n2 : b ≠ i2) :
    Turn P w K (.Tuple elts kk tpos) (ItzN K a b) [z, TI, TO, i1, i2] z (fun i h => IsZip h z TI TO .none ∧ IsTupOf2 h TI (.ref i1) (.ref i2) ∧ (∃ x y, IsTupOf2 h TO x y) ∧ h.IsTupleIter i1 a i ∧ h.IsListIter i2 b i) where
  mem := by simp
  obj := fun i h st c hc => by
    obtain ⟨hz, hTI, ⟨x, y, hTO⟩, ⟨o1, e1, _, d1⟩, ⟨o2, e2, _, d2⟩⟩ := st
    have e' : c = z ∨ c = TI ∨ c = TO ∨ c = i1 ∨ c = i2 := by simpa using hc
    rcases e' with q | q | q | q | q
    · rw [q]; exact ⟨_, hz, fun v q => nomatch q⟩
    · rw [q]; exact ⟨_, hTI, fun v q => nomatch q⟩
    · rw [q]; exact ⟨_, hTO, fun v q => nomatch q⟩
    · rw [q]; exact ⟨o1, e1, fun v q => by rw [d1] at q; cases q⟩
    · rw [q]; exact ⟨o2, e2, fun v q => by rw [d2] at q; cases q⟩
  keep := fun i h h' st k => by
    obtain ⟨hz, hTI, ⟨x, y, hTO⟩, h1, h2⟩ := st
    exact ⟨k z (by simp) _ hz, k TI (by simp) _ hTI, ⟨x, y, k TO (by simp) _ hTO⟩, h1.at fun o q => k i1 (by simp) o q, h2.at fun o q => k i2 (by simp) o q⟩
  item := by
    intro X hP hw hK hc i pins s σ H E I hf st hg
    subst hP hw hK
    obtain ⟨hz, hTI, ⟨x0, y0, hTO⟩, h1, h2⟩ := st
    obtain ⟨xs, ys, x, y, hqx, hqy, hx, hy⟩ := hg
    obtain ⟨its, rv, p, _⟩ := I.tuple hqx
    obtain ⟨its2, rv2, p2, _⟩ := I.list hqy
    obtain ⟨u, hu, ru⟩ := rv.get hx
    obtain ⟨u2, hu2, ru2⟩ := rv2.get hy
    have hui : its.toArray[i]? = some u := by simpa using hu
    have hui2 : its2.toArray[i]? = some u2 := by simpa using hu2
    have hzl : z < s.heap.objs.size := Heap.lt_size hz
    have D1 := Draws.tuple (prog := X.prog) (w := X.w) (A := X.A.in1) (I.ok.hd hc) i1 a n1 its.toArray
    have D2 := Draws.list (prog := X.prog) (w := X.w) (A := X.A.in1) (I.ok.hd hc) i2 b n2 its2.toArray
    refine wpAny_pyNext_zipD2_item D D1 D2 hz hTI hTO ⟨h1, p⟩ ⟨h2, p2.isList⟩ (Array.getElem?_eq_some_iff.mp hui).1 (Array.getElem?_eq_some_iff.mp hui2).1 fun v1 v2 h' tk e1 e2 z' TO' h1' h2' hT hsz hk => ?_
    have ev1 : u = v1 := Option.some.inj (hui.symm.trans e1)
    have ev2 : u2 = v2 := Option.some.inj (hui2.symm.trans e2)
    subst ev1 ev2
    refine ⟨_, rfl, wpAny_letOwnedTupleGo_zip (s := { s with heap := h', toks := tk }) z' fun h'' z'' sb => ?_⟩
    have hT2 : h''.get? s.heap.objs.size = some { cls := .type "tuple", data := .seq #[u, u2] } := (sb.2 _ (Nat.ne_of_gt hzl)).trans hT
    have new : ObjOk X.prog X.w (upd H s.heap.objs.size (.tup [x, y])) h'' s.heap.objs.size (.tup [x, y]) :=
      ⟨by show 2 ≤ sizeLine; decide, [u, u2], .cons ru (.cons ru2 .nil), ⟨_, hT2, rfl, _, rfl⟩⟩
    have I1 : Inv X pins σ (upd H s.heap.objs.size (.tup [x, y])) { s with heap := h'', toks := tk } :=
      I.turnedNew (t' := tk) (ch := [z, TI, TO, i1, i2]) (fun c o hb q => (sb.2 c (fun q' => hb (by simp [q']))).trans (hk c o (fun q' => hb (by simp [q'])) (fun q' => hb (by simp [q'])) (fun q' => hb (by simp [q'])) (fun q' => hb (by simp [q'])) q)) hf (Nat.le_refl _) new
    refine ⟨.ref s.heap.objs.size, _, I1, rfl, ⟨_, x, y, rfl, I.hok.fresh (Nat.le_refl _), rfl, fun l hl => by rw [I.tuple_inj hl hqx]; exact hx, fun l hl => by rw [I.list_inj hl hqy]; exact hy⟩, ⟨z'', ?_, ⟨u, u2, ?_⟩, ?_, ?_⟩, fun c hcm => ?_⟩
    · exact (sb.2 _ D.TIz).trans (hk _ _ D.TIz D.TITO D.TIi1 D.TIi2 hTI)
    · exact (sb.2 _ D.TOz).trans TO'
    · exact h1'.1.at fun o q => (sb.2 _ D.zi1.symm).trans q
    · exact h2'.1.at fun o q => (sb.2 _ D.zi2.symm).trans q
    · have hlt : c < s.heap.objs.size := by
        have e' : c = z ∨ c = TI ∨ c = TO ∨ c = i1 ∨ c = i2 := by simpa using hcm
        rcases e' with q | q | q | q | q
        · rw [q]; exact hzl
        · rw [q]; exact Heap.lt_size hTI
        · rw [q]; exact Heap.lt_size hTO
        · rw [q]; obtain ⟨_, e1, _⟩ := h1; exact Heap.lt_size e1
        · rw [q]; obtain ⟨_, e2, _⟩ := h2; exact Heap.lt_size e2
      rw [upd_ne (Nat.ne_of_lt hlt)]
      exact (hf c hcm).1
  done := by
    intro X hP hw hK hc i pins s σ H E I hf st hg
    subst hP hw hK
    obtain ⟨hz, hTI, ⟨x0, y0, hTO⟩, h1, h2⟩ := st
    obtain ⟨xs, ys, hqx, hqy, g1, g2, hend⟩ := hg
    obtain ⟨its, rv, p, _⟩ := I.tuple hqx
    obtain ⟨its2, rv2, p2, _⟩ := I.list hqy
    have l1 : its.toArray.size = xs.length := by rw [List.size_toArray, rv.length]
    have l2 : its2.toArray.size = ys.length := by rw [List.size_toArray, rv2.length]
    have D1 := Draws.tuple (prog := X.prog) (w := X.w) (A := X.A.in1) (I.ok.hd hc) i1 a n1 its.toArray
    have D2 := Draws.list (prog := X.prog) (w := X.w) (A := X.A.in1) (I.ok.hd hc) i2 b n2 its2.toArray
    exact wpAny_pyNext_zipD2_end D D1 D2 hz hTI hTO ⟨h1, p⟩ ⟨h2, p2.isList⟩ (by omega) (by omega) (by omega) fun h' tk hk => ⟨rfl, I.turnedL (t' := tk) (ch := [z, TI, TO, i1, i2]) (fun c o hb q =>
      hk c o (fun q' => hb (by simp [q'])) (fun q' => hb (by simp [q'])) (fun q' => hb (by simp [q'])) (fun q' => hb (by simp [q'])) q) hf⟩
  self := fun A i s Q E st h => wpAny_pyIter_zip st.1 h
def iZipN (K : PySem.W.Frag) (ta : TA) : TI := fun σ H R => ta σ H fun vs H1 => ∃ a b xs ys, vs = [.ref a, .ref b] ∧ SqT K H1 a xs ∧ SqL K H1 b ys ∧ R (ItzN K a b) H1
theorem pi_zipN {X : Cx} {e e2 : Expr} {ta : TA} {p pos tpos : Pos} {elts : List Expr} {kk : Nat} (hg : Gl X "zip") (hm : X.mg "zip" = none) (ha : PA X [e, e2] ta)
    (hs : starEach [e, e2] X.env = (false, eval e X.env) :: starEach [e2] X.env := by rfl) (hpl : (backTo pos (starEach [e2] X.env)).any (·.1) = false := by rfl) :
    PI X (.Tuple elts kk tpos) (.Call (.Name "zip" p) [e, e2] [] pos) (iZipN X.K ta) := by
  refine ⟨fun pins s σ H R I h => ?_⟩
  refine Call_ (ld_blt I hg hm PyProof.Rows.boot_zip (PyProof.Rows.callWith_type1 (thn (ha.run pos pins s σ H _ I h) fun us s1 ⟨vs, H1, I1, r1, q1⟩ => ?_) hs hpl))
  obtain ⟨a, b, xs, ys, ex, q1⟩ := q1
  subst ex
  cases r1 with
  | cons r rr =>
    cases rr with
    | cons r' rr =>
      cases rr
      cases r
      cases r'
      have fresh5 : ∀ c, c ∈ [s1.heap.objs.size + 4, s1.heap.objs.size + 2, s1.heap.objs.size + 3, s1.heap.objs.size, s1.heap.objs.size + 1] → FpOk X pins H1 c := fun c hcm => by
        have e' : c = s1.heap.objs.size + 4 ∨ c = s1.heap.objs.size + 2 ∨ c = s1.heap.objs.size + 3 ∨ c = s1.heap.objs.size ∨ c = s1.heap.objs.size + 1 := by simpa using hcm
        have hle : s1.heap.objs.size ≤ c := by
          rcases e' with z | z | z | z | z
          · rw [z]; exact Nat.le_add_right _ _
          · rw [z]; exact Nat.le_add_right _ _
          · rw [z]; exact Nat.le_add_right _ _
          · rw [z]; exact Nat.le_refl _
          · rw [z]; exact Nat.le_add_right _ _
        exact I1.fpOk hle (I1.hok.fresh hle)
      obtain ⟨hqx, hqy, q⟩ := q1
      obtain ⟨its, rv, p1, _⟩ := I1.tuple hqx
      obtain ⟨its2, rv2, p2, _⟩ := I1.list hqy
      have la : a < s1.heap.objs.size := let ⟨_, ho, _⟩ := id p1; Heap.lt_size ho
      have lb : b < s1.heap.objs.size := p2.lt
      refine zip_begins2 (begins_tuple a its.toArray) (begins_list b its2.toArray) p1 p2.isList fun h' hz hTI hTO h1 h2 hsz hk => wpAny_pyIter_zip hz ?_
      have I2 : Inv X pins σ H1 { s1 with heap := h' } := I1.kept (t' := s1.toks) hk
      exact ⟨s1.heap.objs.size + 4, [s1.heap.objs.size + 4, s1.heap.objs.size + 2, s1.heap.objs.size + 3, s1.heap.objs.size, s1.heap.objs.size + 1], _, _, H1, rfl, I2, turn_zipN (zip_sep2 (N := s1.heap.objs.size) (fun c hc => by rw [List.mem_singleton.mp hc]; exact la) (fun c hc => by rw [List.mem_singleton.mp hc]; exact lb)) (Nat.ne_of_lt la) (Nat.ne_of_lt (Nat.lt_succ_of_lt lb)), ⟨hz, hTI, ⟨_, _, hTO⟩, ⟨_, h1, rfl, rfl⟩, ⟨_, h2, rfl, rfl⟩⟩, fresh5, q⟩
theorem walk_zipN {K : PySem.W.Frag} {a b : Addr} {xs ys : List V} (hl : xs.length = ys.length) : Walk (ItzN K a b) xs.length (fun H => SqT K H a xs ∧ SqL K H b ys) (YPair (fun i => xs[i]?) (fun i => ys[i]?)) where
  goes := fun i _ hi q => ⟨xs, ys, xs[i], ys[i]'(hl ▸ hi), q.1, q.2, List.getElem?_eq_getElem hi, List.getElem?_eq_getElem (hl ▸ hi)⟩
  stops := fun _ q => ⟨xs, ys, q.1, q.2, Nat.le_refl _, Nat.le_of_eq hl, .inl rfl⟩
  yields := fun i H v H' _ q ⟨T, x, y, h1, h2, h3, h4, h5⟩ => ⟨T, x, y, h1, h2, h3, h4 xs q.1, h5 ys q.2⟩
theorem PI.or {X : Cx} {tg e : Expr} {r r' : TI} (h : PI X tg e r) (h' : PI X tg e r') : PI X tg e (fun σ H R => r σ H R ∨ r' σ H R) := ⟨fun pins s σ H R I q => q.elim (h.run pins s σ H R I) (h'.run pins s σ H R I)⟩
def iZipQ (K : PySem.W.Frag) (ta : TA) : TI := fun σ H R => RZ.iZipA K ta σ H R ∨ iZipM K ta σ H R ∨ iZipN K ta σ H R
theorem pi_zipQ {X : Cx} {e e2 : Expr} {ta : TA} {p pos tpos : Pos} {elts : List Expr} {kk : Nat} (hg : Gl X "zip") (hm : X.mg "zip" = none) (ha : PA X [e, e2] ta)
    (hs : starEach [e, e2] X.env = (false, eval e X.env) :: starEach [e2] X.env := by rfl) (hpl : (backTo pos (starEach [e2] X.env)).any (·.1) = false := by rfl) :
    PI X (.Tuple elts kk tpos) (.Call (.Name "zip" p) [e, e2] [] pos) (iZipQ X.K ta) := PI.or (RZ.pi_zipA hg hm ha hs hpl) (PI.or (pi_zipM hg hm ha hs hpl) (pi_zipN hg hm ha hs hpl))
/-- rows of one length by pairs: each way of holding them -/
def ZipJ (K : PySem.W.Frag) (J : It) (n : Nat) (H0 : Hp) (fx fy : Nat → Option V) : Prop := ∃ G, Walk J n G (YPair fx fy) ∧ ∀ H, GX.NoTab H0 H → G H

/-! ### enumerate over a list or a tuple -/
theorem meets_enB {v : Value} {o : Obj} {G : Heap → Prop} (B : Begins v o G) : Meets (Builtin.«enumerate.__new__» ⟨[.type "enumerate", v], []⟩) (fun _ R s => G s.heap ∧
    R (.ok (.ret (.ref (s.heap.push o).objs.size))) { s with heap := (s.heap.push o).push { cls := .type "enumerate", data := .fields #[.none, .bool false, .ref s.heap.objs.size, rawInt 0, .none, .none] } }) :=
  .of_wp fun prog w A R s given => by
    obtain ⟨hp, g, d, tk, os⟩ := s
    obtain ⟨hg, given⟩ := given
    have sub0 := sub_enumerate
    have begun : ∀ {A' : Around} {E' Q' : Value → Shared → Prop}, Q' (.ref hp.objs.size) ⟨hp.push o, g, d, tk, os⟩ → wpAny (model prog w) A' (pyIter v) Q' E' ⟨hp, g, d, tk, os⟩ := fun q => B.iter prog w _ _ ⟨hp, g, d, tk, os⟩ _ hg q
    wp_walk using begun
    refine wpAny_stack_any fun stk => wpAny_pure ?_
    split
    · rename_i c0 _ _ _ _ _
      cases (c0 == Value.type "enumerate") <;> (wp_walk using begun; exact ⟨_, rfl, given⟩)
    · wp_walk using begun
      exact ⟨_, rfl, given⟩
theorem call_enB {prog : Program} {w : World} {A : Around} {E Q : Value → Shared → Prop} {s : Shared} {v : Value} {o : Obj} {G : Heap → Prop} (B : Begins v o G) (hg : G s.heap)
    (h : ∀ h', IsEnum h' (s.heap.objs.size + 1) s.heap.objs.size 0 .none → h'.get? s.heap.objs.size = some o → (∀ b o, s.heap.get? b = some o → h'.get? b = some o) → Q (.ref (s.heap.objs.size + 1)) { s with heap := h' }) : wpAny (model prog w) A (call (.type "enumerate") [v]) Q E s := by
  refine callType_new F.called_enumerate (by decide) (F.typeCall_enumerate_1 _) (F.newCall_enumerate_1 _) (fun obj => F.args_object_init_2 obj _) F.entry_enumerate_new (meets_enB B) ⟨hg, ?_⟩
  have z1 : (s.heap.push o).objs.size = s.heap.objs.size + 1 := Heap.size_push ..
  show _ ∧ _
  rw [z1]
  have made : IsEnum ((s.heap.push o).push { cls := .type "enumerate", data := .fields #[.none, .bool false, .ref s.heap.objs.size, rawInt 0, .none, .none] }) (s.heap.objs.size + 1) s.heap.objs.size 0 .none := by
    have e0 := Heap.get?_push_size (s.heap.push o) (o := { cls := .type "enumerate", data := .fields #[.none, .bool false, .ref s.heap.objs.size, rawInt 0, .none, .none] }) rfl
    rw [z1] at e0
    exact e0
  exact ⟨⟨_, made, rfl⟩, h _ made (Heap.get?_push_of_some _ (Heap.get?_push_size _ B.free)) fun b o x => Heap.get?_push_of_some _ (Heap.get?_push_of_some _ x)⟩
/-- the tuple at a as it stands, each item in a new pair -/
def IteT (K : PySem.W.Frag) (a : Addr) : It := ⟨fun i H => ∃ (xs : List V) (x : V), SqT K H a xs ∧ xs[i]? = some x, fun i H v H' => ∃ T x, v = .ref T ∧ H T = none ∧ H' = upd H T (.tup [.int (i : Nat), x]) ∧ ∀ xs, SqT K H a xs → xs[i]? = some x, fun i H => ∃ xs : List V, SqT K H a xs ∧ xs.length = i⟩
theorem turn_enT {P : Program} {w : World} {K : PySem.W.Frag} {elts : List Expr} {kk : Nat} {tpos : Pos} (a e it : Addr) (nei : e ≠ it) (nea : e ≠ a) (nai : a ≠ it) :
    Turn P w K (.Tuple elts kk tpos) (IteT K a) [e, it] e (fun i h => (∃ old, IsEnum h e it ((i : Nat) : Int) old) ∧ h.IsTupleIter it a i) where
  mem := List.mem_cons_self ..
  obj := fun i h ⟨⟨old, he⟩, ⟨o, ho, hc, hd⟩⟩ b hb => by
    rcases List.mem_cons.mp hb with z | z
    · subst z
      exact ⟨_, he, fun v q => nomatch q⟩
    · rw [List.mem_singleton.mp z]
      exact ⟨o, ho, fun v q => by rw [hd] at q; cases q⟩
  keep := fun i h h' ⟨⟨old, he⟩, hi⟩ k => ⟨⟨old, k e (List.mem_cons_self ..) _ he⟩, hi.at fun o q => k it (List.mem_cons_of_mem _ (List.mem_singleton.mpr rfl)) o q⟩
  item := by
    intro X hP hw hK hc i pins s σ H E I hf st hg
    subst hP hw hK
    obtain ⟨⟨old, he⟩, hit⟩ := st
    obtain ⟨xs, x, hq, hx⟩ := hg
    obtain ⟨its, rv, isT, _⟩ := I.tuple hq
    obtain ⟨u, hu, ru⟩ := rv.get hx
    have lte : e < s.heap.objs.size := Heap.lt_size he
    have lti : it < s.heap.objs.size := let ⟨_, q, _⟩ := hit; Heap.lt_size q
    have hui : its.toArray[i]? = some u := by simpa using hu
    have lt : i < its.toArray.size := (Array.getElem?_eq_some_iff.mp hui).1
    have D := Draws.tuple (prog := X.prog) (w := X.w) (A := X.A.in1) (I.ok.hd hc) it a nai its.toArray
    refine wpAny_pyNext_enum_itemD D he ⟨hit, isT⟩ lt nei (by intro z; rcases List.mem_cons.mp z with z | z; exact nei z; exact nea (List.mem_singleton.mp z)) fun x' h' tk hx' ho st' hT hsz hk => ?_
    have ex : u = x' := Option.some.inj (hui.symm.trans hx')
    subst ex
    refine ⟨_, rfl, wpAny_letOwnedTupleGo_enum (s := { s with heap := h', toks := tk + 1 }) ho fun h'' he' sb => ?_⟩
    have hT2 := (sb.2 _ (Nat.ne_of_gt lte)).trans hT
    have new : ObjOk X.prog X.w (upd H s.heap.objs.size (.tup [.int (i : Nat), x])) h'' s.heap.objs.size (.tup [.int (i : Nat), x]) := ⟨by show 2 ≤ sizeLine; decide, [.int i tk, u], .cons ⟨_, rfl⟩ (.cons ru .nil), ⟨_, hT2, rfl, _, rfl⟩⟩
    have I1 : Inv X pins σ (upd H s.heap.objs.size (.tup [.int (i : Nat), x])) { s with heap := h'', toks := tk + 1 } :=
      I.turnedNew (t' := tk + 1) (ch := [e, it]) (fun b ob hb q => (sb.2 b (fun z => hb (z ▸ List.mem_cons_self ..))).trans (hk b ob (fun z => hb (z ▸ List.mem_cons_self ..)) (fun z => hb (z ▸ List.mem_cons_of_mem _ (List.mem_singleton.mpr rfl))) q)) hf (Nat.le_refl _) new
    refine ⟨.ref s.heap.objs.size, _, I1, rfl, ⟨_, x, rfl, I.hok.fresh (Nat.le_refl _), rfl, fun ys hy => by rw [I.tuple_inj hy hq]; exact hx⟩, ⟨⟨u, ?_⟩, st'.1.at fun o q => (sb.2 it nei.symm).trans q⟩, fun b hb => ?_⟩
    · have e1 : ((i + 1 : Nat) : Int) = (i : Int) + 1 := by omega
      exact e1 ▸ he'
    · have ltb : b < s.heap.objs.size := by
        rcases List.mem_cons.mp hb with z | z
        · exact z ▸ lte
        · exact (List.mem_singleton.mp z) ▸ lti
      rw [upd_ne (Nat.ne_of_lt ltb)]
      exact (hf b hb).1
  done := by
    intro X hP hw hK hc i pins s σ H E I hf st hg
    subst hP hw hK
    obtain ⟨⟨old, he⟩, hit⟩ := st
    obtain ⟨xs, hq, hx⟩ := hg
    obtain ⟨its, rv, isT, _⟩ := I.tuple hq
    obtain ⟨f0, f1, _, f3, f4, f5⟩ := hf it (List.mem_cons_of_mem _ (List.mem_singleton.mpr rfl))
    have hl : its.toArray.size = i := by
      have := rv.length
      simp
      omega
    have D := Draws.tuple (prog := X.prog) (w := X.w) (A := X.A.in1) (I.ok.hd hc) it a nai its.toArray
    exact wpAny_pyNext_enum_endD D he (hl.symm ▸ ⟨hit, isT⟩) fun h' eb => ⟨rfl, I.turned (t' := s.toks) (fun b o hb q => eb b o hb q) f0 f1 f3 f4 f5⟩
  self := fun A i s Q E ⟨⟨_, he⟩, _⟩ h => wpAny_pyIter_enum he h
def iEnS (K : PySem.W.Frag) (ta : TA) : TI := fun σ H R => ta σ H fun vs H1 => ∃ a, vs = [.ref a] ∧ (((∃ xs, SqL K H1 a xs) ∧ R (Ite K a) H1) ∨ ((∃ xs, SqT K H1 a xs) ∧ R (IteT K a) H1))
theorem pi_enS {X : Cx} {e : Expr} {ta : TA} {p pos tpos : Pos} {elts : List Expr} {kk : Nat} (hg : Gl X "enumerate") (hm : X.mg "enumerate" = none) (ha : PA X [e] ta) (hs : starEach [e] X.env = [(false, eval e X.env)] := by rfl) : PI X (.Tuple elts kk tpos) (.Call (.Name "enumerate" p) [e] [] pos) (iEnS X.K ta) := by
  constructor
  intro pins s σ H R I h
  refine Call_ (ld_blt I hg hm boot_enumerate (PyProof.Rows.callWith_type1 (thn (ha.run pos pins s σ H _ I h) fun us s1 had => ?_) hs rfl))
  obtain ⟨_, H1, J, rel, a, rfl, had⟩ := had
  cases rel with | cons r rr => ?_
  cases rr
  cases r
  have apart : ∀ b ∈ [s1.heap.objs.size + 1, s1.heap.objs.size], FpOk X pins H1 b := fun b hb => by
    have le : s1.heap.objs.size ≤ b := by
      rcases List.mem_cons.mp hb with z | z
      · rw [z]; exact Nat.le_succ _
      · rw [List.mem_singleton.mp z]; exact Nat.le_refl _
    exact J.fpOk le (J.hok.fresh le)
  rcases had with ⟨⟨xs, hq⟩, q⟩ | ⟨⟨xs, hq⟩, q⟩
  · obtain ⟨its, _, isL, _⟩ := J.list hq
    exact call_enumerate_list isL.isList fun h' he hit _ hk => wpAny_pyIter_enum he ⟨_, _, _, _, H1, rfl, J.kept (t' := s1.toks) hk, turn_enum a _ _, ⟨⟨.none, he⟩, hit, Nat.succ_ne_self _⟩, apart, q⟩
  · obtain ⟨its, _, isT, _⟩ := J.tuple hq
    have lta : a < s1.heap.objs.size := let ⟨_, ho, _⟩ := id isT; Heap.lt_size ho
    exact call_enB (begins_tuple a its.toArray) isT fun h' he hit hk => wpAny_pyIter_enum he ⟨_, _, _, _, H1, rfl, J.kept (t' := s1.toks) hk, turn_enT a _ _ (Nat.succ_ne_self _) (Nat.ne_of_gt (Nat.lt_succ_of_lt lta)) (Nat.ne_of_lt lta), ⟨⟨.none, he⟩, ⟨_, hit, rfl, rfl⟩⟩, apart, q⟩
theorem walk_enT {K : PySem.W.Frag} {a : Addr} {xs : List V} : Walk (IteT K a) xs.length (fun H => SqT K H a xs) (YPair (fun i => some (.int (i : Nat))) (fun i => xs[i]?)) where
  goes := fun i _ hi q => ⟨xs, xs[i], q, List.getElem?_eq_getElem hi⟩
  stops := fun _ q => ⟨xs, q, rfl⟩
  yields := fun i H v H' _ q ⟨T, x, h1, h2, h3, h4⟩ => ⟨T, .int (i : Nat), x, h1, h2, h3, rfl, h4 xs q⟩
theorem for_enS {K : PySem.W.Frag} {a : Addr} {xs : List V} {g : TG} {tb : TS} {D : Ends} {σ : L2.St} {H0 H1 : Hp} (hq : Sq K H0 a xs) (s1 : Same H0 H1) (Pv : Nat → L2.St → Hp → Prop) (h0 : Pv 0 σ H1) (hl : ∀ i σ H', Pv i σ H' → Same H0 H')
    (turn : ∀ i x T σ H, xs[i]? = some x → Pv i σ H → H T = none → g (.ref T) σ (upd H T (.tup [.int (i : Nat), x])) fun σ2 H2 => tb { D with nx := Pv (i + 1), ct := Pv (i + 1), bk := D.nx } σ2 H2) (fin : ∀ σ H, Pv xs.length σ H → D.nx σ H) :
    ((∃ xs, SqL K H1 a xs) ∧ ForR (Ite K a) g tb D σ H1) ∨ ((∃ xs, SqT K H1 a xs) ∧ ForR (IteT K a) g tb D σ H1) := by
  have tn : ∀ i v σ H H', i < xs.length → Pv i σ H → YPair (fun i => some (.int (i : Nat))) (fun i => xs[i]?) i H v H' → g v σ H' fun σ2 H2 => tb { D with nx := Pv (i + 1), ct := Pv (i + 1), bk := D.nx } σ2 H2 := by
    rintro i v σ H H' _ hp ⟨T, x, y, rfl, nT, rfl, e1, e2⟩
    cases e1
    exact turn i y T σ H e2 hp nT
  rcases hq with h | h
  · exact .inl ⟨⟨xs, s1.seq h⟩, for_it walk_enum Pv h0 (fun i σ H' _ p => (hl i σ H' p).seq h) tn fin⟩
  · exact .inr ⟨⟨xs, same_t s1 h⟩, for_it walk_enT Pv h0 (fun i σ H' _ p => same_t (hl i σ H' p) h) tn fin⟩

/-! ### sum of a row; a row from its second on -/
section
variable {X : Cx}
theorem cr_sumT (hc : X.calm = true) : CallR X (.builtin "sum") (fun vs H Q => ∃ (a : Addr) (ns : List Int), vs = [V.ref a] ∧ SqT X.K H a (ns.map V.int) ∧ Q (.int ns.sum) H) := fun pins s σ H vs us Q I r h => by
  obtain ⟨a, ns, rfl, hs, q⟩ := h
  obtain ⟨its, rv, p, _⟩ := I.tuple hs
  rw [Vals.ref1 r]
  have p : s.heap.IsTuple a its.toArray := p
  have hlt : a < s.heap.objs.size := by obtain ⟨_, e, _⟩ := p; exact Heap.lt_size e
  have lits : its.length = ns.length := by rw [← rv.length, List.length_map]
  refine call_sum_walkG (wpAny_pyIter_tuple p ⟨_, _, _, _, _, _, fun i => ns.getD i 0, rfl, Walks.tuple (A := X.A.in1) (I.ok.hd hc) _ a (Nat.ne_of_lt hlt) its.toArray, ⟨⟨_, Heap.get?_push_size _ rfl, rfl, rfl⟩, p.push _⟩, fun b hb => ?_, fun i v e => ?_, fun h' tk t' hk => ?_⟩)
  · show b < (s.heap.push _).objs.size
    rw [Heap.size_push]
    rcases List.mem_cons.mp hb with rfl | hb
    · exact Nat.lt_succ_self _
    · rw [List.mem_singleton.mp hb]
      exact Nat.lt_succ_of_lt hlt
  · have e2 : its[i]? = some v := by simpa using e
    have hi : i < ns.length := by rw [← lits]; exact (List.getElem?_eq_some_iff.mp e2).1
    obtain ⟨u, hu, ru⟩ := rv.get (i := i) (x := .int ns[i]) (by rw [List.getElem?_map, List.getElem?_eq_getElem hi]; rfl)
    rw [e2] at hu
    cases hu
    obtain ⟨t, rfl⟩ := ru
    refine ⟨t, ?_⟩
    show Value.int ns[i] t = Value.int (ns.getD i 0) t
    rw [List.getD_eq_getElem?_getD, List.getElem?_eq_getElem hi]
    rfl
  · have es : preSum (fun i => ns.getD i 0) its.toArray.size = ns.sum := by
      rw [List.size_toArray, lits, preSum_list (f := fun x => x) (l := ns) (fun i p e => by rw [List.getD_eq_getElem?_getD, e]; rfl) _ (Nat.le_refl _), List.take_length]
      unfold costF
      rw [List.map_id']
    rw [es]
    refine ⟨.int _, H, I.kept fun b o eo => hk b o (fun hmem => ?_) (Heap.get?_push_of_some _ eo), ⟨_, rfl⟩, q⟩
    rcases List.mem_cons.mp hmem with e1 | hmem
    · exact absurd (e1 ▸ Heap.lt_size eo) (Nat.lt_irrefl _)
    · cases hmem
def rSumQ (K : PySem.W.Frag) : List V → Hp → VK → Prop := fun vs H Q => rSum K vs H Q ∨ ∃ (a : Addr) (ns : List Int), vs = [V.ref a] ∧ SqT K H a (ns.map V.int) ∧ Q (.int ns.sum) H
theorem cr_sumQ (hc : X.calm = true) : CallR X (.builtin "sum") (rSumQ X.K) := (cr_sum hc).or (cr_sumT hc)
theorem rSumQ.of {K : PySem.W.Frag} {H : Hp} {a : Addr} {ns : List Int} {Q : VK} (h : IntsQ H a ns) (q : Q (.int ns.sum) H) : rSumQ K [.ref a] H Q := h.elim (fun e => .inl ⟨a, ns, rfl, SqL.of e, q⟩) (fun e => .inr ⟨a, ns, rfl, .inl (.inl e), q⟩)
def rSlQ (K : PySem.W.Frag) : V → Option Int → Option Int → Hp → VK → Prop := fun x lo hi H Q => rSlL K x lo hi H Q ∨ rSlA K x lo hi H Q
theorem sl_seq : SlR X (rSlQ X.K) := SlR.or sl_list sl_tupA
end
theorem cutV_tail (xs : List V) : cutV xs (some 1) none = xs.drop 1 := by
  unfold cutV
  rw [HT.sIx_none, show (some (1 : Int)) = some ((1 : Nat) : Int) from rfl, HT.sIx_nat]
  by_cases h : 1 ≤ xs.length
  · rw [Nat.min_eq_left h, List.take_of_length_le (by rw [List.length_drop]; omega)]
  · rw [Nat.min_eq_right (by omega), List.drop_eq_nil_of_le (Nat.le_refl _), List.drop_eq_nil_of_le (by omega), List.take_nil]
/-- the tail of a row, of the same kind -/
theorem rSlQ.tail {K : PySem.W.Frag} {H : Hp} {a : Addr} {xs : List V} {Q : VK} (h : SqH H a xs) (q : ∀ p H', Same H H' → ((H a = some (.lst xs) ∧ H' p = some (.lst (xs.drop 1))) ∨ (H a = some (.tup xs) ∧ H' p = some (.tup (xs.drop 1)))) → Q (.ref p) H') : rSlQ K (.ref a) (some 1) none H Q := by
  rcases h with e | e
  · refine .inl ⟨a, xs, rfl, SqL.of e, fun p np => ?_⟩
    exact q p _ (same_upd np) (.inl ⟨e, by rw [upd_same, cutV_tail]⟩)
  · refine .inr ⟨a, xs, rfl, .inl (.inl e), fun hw => ?_, fun _ p np => ?_⟩
    · have e0 : xs.drop 1 = xs := by
        have := hw.1
        rw [show (some (1 : Int)) = some ((1 : Nat) : Int) from rfl, HT.sIx_nat] at this
        have : xs.length = 0 := by omega
        rw [List.length_eq_zero_iff.mp this]
        rfl
      exact q a H (Same.refl _) (.inr ⟨e, by rw [e0]; exact e⟩)
    · exact q p _ (same_upd np) (.inr ⟨e, by rw [upd_same, cutV_tail]⟩)
/-! ### the checkers -/
def spIsRow : Sp := fun vs H Q _ => ∃ (a : Addr) (xs : List V), vs = [.ref a] ∧ SqH H a xs ∧ ∀ H', Same H H' → Q (.bl true) H'
def spTupOf : Sp := fun vs H Q _ => ∃ (a : Addr) (xs : List V) (m : Int), vs = [.ref a, .int m] ∧ H a = some (.tup xs) ∧ Q (.bl (decide ((xs.length : Int) = m))) H
def spIsNum : Sp := fun vs H Q _ => ∃ i : Int, vs = [.int i] ∧ 0 ≤ i ∧ Q (.bl true) H
abbrev sIsRow : Stmt := topS 9
theorem scIsRow : FnScope ["thing"] ["thing"] (defScope sIsRow) := ⟨rfl, rfl, rfl, by decide +kernel, rfl, by decide +kernel, by decide +kernel⟩
abbrev sTupOf : Stmt := topS 10
theorem scTupOf : FnScope ["thing", "many"] ["thing", "many"] (defScope sTupOf) := ⟨rfl, rfl, rfl, by decide +kernel, rfl, by decide +kernel, by decide +kernel⟩
abbrev sIsNum : Stmt := topS 11
theorem scIsNum : FnScope ["thing"] ["thing"] (defScope sIsNum) := ⟨rfl, rfl, rfl, by decide +kernel, rfl, by decide +kernel, by decide +kernel⟩
abbrev sLNum : Stmt := topS 30
theorem scLNum : FnScope ["_law_thing"] ["_law_thing"] (defScope sLNum) := ⟨rfl, rfl, rfl, by decide +kernel, rfl, by decide +kernel, by decide +kernel⟩
section
variable {K : PySem.W.Frag} {mg : Str → Option Value} {P : Program} {w : World} {base : Heap}
theorem kit2L {K : PySem.W.Frag} : PySem.W.kitAny K (.type "list") [.type "list", .type "tuple"] = some true :=
  kitAny_cons (b := true) (kit_ty (by decide +kernel)) (fun z => nomatch z) (fun _ => rfl)
theorem kit2T {K : PySem.W.Frag} : PySem.W.kitAny K (.type "tuple") [.type "list", .type "tuple"] = some true :=
  kitAny_cons (b := false) (kit_ty (by decide +kernel)) (fun _ => kitAny_cons (b := true) (kit_ty (by decide +kernel)) (fun z => nomatch z) (fun _ => rfl)) (fun z => nomatch z)
theorem ok_IsRow {f : Addr} {fd : FuncData} (F : Fun K "is_row" "is_row" sIsRow f fd) (m_tuple : mg "tuple" = none) (m_list : mg "list" = none) (m_isinstance : mg "isinstance" = none) : FnOk P w K mg base CX0 1 f fd ["thing"] spIsRow := by
  refine F.ok scIsRow (fun vs H Q E h => ?_) (fun cdv A outer s H vs Q E hr h => ?_)
  · obtain ⟨a, xs, rfl, _⟩ := h
    rfl
  · obtain ⟨a, xs, rfl, hA, q⟩ := h
    refine ⟨_, pss_one (ps_ret (pe_callB call_isiT (by rfl) m_isinstance (by decide +kernel) (pa_cons (pv 0) (pa_cons (pe_tup (pa_cons (pe_bltn (v := .ty "list") (by rfl) m_list (by decide +kernel) rfl) (pa_cons (pe_bltn (v := .ty "tuple") (by rfl) m_tuple (by decide +kernel) rfl) pa_nil))) pa_nil)))), ?_⟩
    refine ⟨_, rfl, (by show 2 ≤ sizeLine; decide), fun p np => ?_⟩
    have s1 : Same H (upd H p (.tup [.ty "list", .ty "tuple"])) := same_upd np
    rcases hA with e | e
    · exact ⟨.ref a, p, _, .type "list", [.type "list", .type "tuple"], true, rfl, upd_same, .cons (.ty _) (.cons (.ty _) .nil), .base (.lst (s1 _ _ e)), kit2L, q _ s1⟩
    · exact ⟨.ref a, p, _, .type "tuple", [.type "list", .type "tuple"], true, rfl, upd_same, .cons (.ty _) (.cons (.ty _) .nil), .base (.tup (s1 _ _ e)), kit2T, q _ s1⟩
theorem ok_TupOf {f : Addr} {fd : FuncData} (F : Fun K "is_tuple_of" "is_tuple_of" sTupOf f fd) (m_isinstance : mg "isinstance" = none) (m_tuple : mg "tuple" = none) (m_len : mg "len" = none) : FnOk P w K mg base CX0 1 f fd ["thing", "many"] spTupOf := by
  refine F.ok scTupOf (fun vs H Q E h => ?_) (fun cdv A outer s H vs Q E hr h => ?_)
  · obtain ⟨a, xs, m, rfl, _⟩ := h
    rfl
  · obtain ⟨a, xs, m, rfl, e, q⟩ := h
    refine ⟨_, pss_one (ps_ret (pe_and (pe_callB call_isi (by rfl) m_isinstance (by decide +kernel) (pa_cons (pv 0) (pa_cons (pe_bltn (v := .ty "tuple") (by rfl) m_tuple (by decide +kernel) rfl) pa_nil))) (pe_one (pe_cmpR op_eq (pe_callB call_len_seq (by rfl) m_len PySem.boot_len (pa_cons (pv 0) pa_nil)) (pv 1) (nomark _))))), ?_⟩
    refine ⟨_, rfl, _, _, .type "tuple", .type "tuple", true, rfl, .ty _, .base (.tup e), kit_ty (by decide +kernel), _, rfl, iteT ?_⟩
    refine ⟨_, rfl, a, xs, rfl, .inr (.inl (.inl e)), _, rfl, rfl, ?_⟩
    have e2 : decide (V.int (xs.length : Int) = V.int m) = decide ((xs.length : Int) = m) := by simp
    rw [e2]
    exact q
theorem ok_IsNum {f : Addr} {fd : FuncData} (F : Fun K "is_number" "is_number" sIsNum f fd) (m_isinstance : mg "isinstance" = none) (m_int : mg "int" = none) (m_bool : mg "bool" = none) : FnOk P w K mg base CX0 1 f fd ["thing"] spIsNum := by
  refine F.ok scIsNum (fun vs H Q E h => ?_) (fun cdv A outer s H vs Q E hr h => ?_)
  · obtain ⟨i, rfl, _⟩ := h
    rfl
  · obtain ⟨i, rfl, h0, q⟩ := h
    refine ⟨_, pss_one (ps_ret (pe_and (pe_callB call_isi (by rfl) m_isinstance (by decide +kernel) (pa_cons (pv 0) (pa_cons (pe_bltn (v := .ty "int") (by rfl) m_int (by decide +kernel) rfl) pa_nil))) (pe_and (pe_not (pe_callB call_isi (by rfl) m_isinstance (by decide +kernel) (pa_cons (pv 0) (pa_cons (pe_bltn (v := .ty "bool") (by rfl) m_bool (by decide +kernel) rfl) pa_nil)))) (pe_one (pe_cmpR op_ge (pv 0) pe_int (nomark _)))))), ?_⟩
    refine ⟨_, rfl, _, _, .type "int", .type "int", true, rfl, .ty _, .base (.int i), kit_ty (by decide +kernel), _, rfl, iteT ?_⟩
    refine ⟨_, rfl, _, _, .type "int", .type "bool", false, rfl, .ty _, .base (.int i), kit_ty (by decide +kernel), _, rfl, _, rfl, iteT ?_⟩
    refine ⟨_, rfl, _, _, rfl, rfl, ?_⟩
    show Q (.bl (decide (0 ≤ i))) H
    rw [decide_eq_true h0]
    exact q
theorem ok_LNum {f : Addr} {fd : FuncData} (F : Fun K "_law_is_number" "_law_is_number" sLNum f fd) (m_isinstance : mg "isinstance" = none) (m_int : mg "int" = none) (m_bool : mg "bool" = none) : FnOk P w K mg base CX0 1 f fd ["_law_thing"] spIsNum := by
  refine F.ok scLNum (fun vs H Q E h => ?_) (fun cdv A outer s H vs Q E hr h => ?_)
  · obtain ⟨i, rfl, _⟩ := h
    rfl
  · obtain ⟨i, rfl, h0, q⟩ := h
    refine ⟨_, pss_one (ps_ret (pe_and (pe_callB call_isi (by rfl) m_isinstance (by decide +kernel) (pa_cons (pv 0) (pa_cons (pe_bltn (v := .ty "int") (by rfl) m_int (by decide +kernel) rfl) pa_nil))) (pe_and (pe_not (pe_callB call_isi (by rfl) m_isinstance (by decide +kernel) (pa_cons (pv 0) (pa_cons (pe_bltn (v := .ty "bool") (by rfl) m_bool (by decide +kernel) rfl) pa_nil)))) (pe_one (pe_cmpR op_ge (pv 0) pe_int (nomark _)))))), ?_⟩
    refine ⟨_, rfl, _, _, .type "int", .type "int", true, rfl, .ty _, .base (.int i), kit_ty (by decide +kernel), _, rfl, iteT ?_⟩
    refine ⟨_, rfl, _, _, .type "int", .type "bool", false, rfl, .ty _, .base (.int i), kit_ty (by decide +kernel), _, rfl, _, rfl, iteT ?_⟩
    refine ⟨_, rfl, _, _, rfl, rfl, ?_⟩
    show Q (.bl (decide (0 ≤ i))) H
    rw [decide_eq_true h0]
    exact q
end

/-! ### rows of numbers, runs, dues -/
abbrev GxJ {α : Type} (J : It) (a0 : α) (Stp : VK → GX.Stps α) (Fin : VK → α → Hp → Prop) (tc : GX.TC) (g : TG) (tt : TT) (te : Value → TE) (vs : List Nat) (σ : L2.St) (H : Hp) (Q : VK) : Prop := tc σ H fun code H2 => ∃ W : Nat → Nat → α → Hp → Prop, (∃ m, W 0 m a0 H2) ∧ GX.TurnsR (Stp Q) (Fin Q) J g tt (te code) vs σ W
theorem iseq_gx {α : Type} {a0 : α} {Stp : VK → GX.Stps α} {Fin : VK → α → Hp → Prop} {tc : GX.TC} {te : Value → TE} {Q : VK} {K : PySem.W.Frag} {H : Hp} {a : Addr} {xs : List V} {g : TG} {tt : TT} {vs : List Nat} {σ : L2.St} (h : SqH H a xs) (r : ∀ J G, Walk J xs.length G (YAt xs) → (∀ H', GX.NoTab H H' → G H') → GxJ J a0 Stp Fin tc g tt te vs σ H Q) :
    ((∃ xs, SqL K H a xs) ∧ GxJ (Itl K a) a0 Stp Fin tc g tt te vs σ H Q) ∨ ((∃ xs, SqT K H a xs) ∧ GxJ (Itt K a) a0 Stp Fin tc g tt te vs σ H Q) := by
  rcases h with e | e
  · exact .inl ⟨⟨_, SqL.of e⟩, r _ _ walk_list fun H' n => SqL.of (n.lst e)⟩
  · exact .inr ⟨⟨_, .inl (.inl e)⟩, r _ _ walk_tup fun H' n => .inl (.inl (n.tup e))⟩
theorem walk_zipTn {K : PySem.W.Frag} {a b : Addr} {xs ys : List V} {n : Nat} (hn : n = min xs.length ys.length) : Walk (RZ.ItzT K a b) n (fun H => SqT K H a xs ∧ SqT K H b ys) (YPair (fun i => xs[i]?) (fun i => ys[i]?)) := by
  subst hn
  refine ⟨fun i _ hi q => ?_, fun _ q => ⟨xs, ys, q.1, q.2, by omega⟩, fun i H v H' _ q y => ?_⟩
  · have h1 : i < xs.length := by omega
    have h2 : i < ys.length := by omega
    exact ⟨xs, ys, xs[i], ys[i], q.1, q.2, by simp [h1], by simp [h2]⟩
  · obtain ⟨T, x, z, h1, h2, h3, h4, h5⟩ := y
    exact ⟨T, x, z, h1, h2, h3, h4 xs q.1, h5 ys q.2⟩
theorem zipq_vars {K : PySem.W.Frag} {H : Hp} {a b : Addr} {xs ys : List V} {σ : L2.St} {i j : Nat} {R : It → Hp → Prop} (ei : σ[i]? = some (some (.ref a))) (ej : σ[j]? = some (some (.ref b))) (ha : SqH H a xs) (hb : SqH H b ys) (hl : xs.length = ys.length)
    (r : ∀ J G, Walk J xs.length G (YPair (fun i => xs[i]?) (fun i => ys[i]?)) → (∀ H', GX.NoTab H H' → G H') → R J H) : iZipQ K (tCons (tVar i) (tCons (tVar j) tNil)) σ H R := by
  rcases ha with e | e <;> rcases hb with e2 | e2
  · exact .inl ⟨_, ei, _, ej, a, b, xs, ys, rfl, .inl ⟨SqL.of e, SqL.of e2, r _ _ (walk_zip (by omega)) fun H' n => ⟨SqL.of (n.lst e), SqL.of (n.lst e2)⟩⟩⟩
  · exact .inr (.inl ⟨_, ei, _, ej, a, b, xs, ys, rfl, .inr ⟨SqL.of e, .inl (.inl e2), r _ _ (walk_zipM hl) fun H' n => ⟨SqL.of (n.lst e), .inl (.inl (n.tup e2))⟩⟩⟩)
  · exact .inr (.inr ⟨_, ei, _, ej, a, b, xs, ys, rfl, .inl (.inl e), SqL.of e2, r _ _ (walk_zipN hl) fun H' n => ⟨.inl (.inl (n.tup e)), SqL.of (n.lst e2)⟩⟩)
  · exact .inl ⟨_, ei, _, ej, a, b, xs, ys, rfl, .inr ⟨.inl (.inl e), .inl (.inl e2), r _ _ (walk_zipTn (by omega)) fun H' n => ⟨.inl (.inl (n.tup e)), .inl (.inl (n.tup e2))⟩⟩⟩
theorem for_enQ {K : PySem.W.Frag} {a : Addr} {xs : List V} {g : TG} {tb : TS} {D : Ends} {σ : L2.St} {H0 : Hp} (hq : SqH H0 a xs) (Pv : Nat → L2.St → Hp → Prop) (h0 : Pv 0 σ H0) (hl : ∀ i σ H', Pv i σ H' → GX.NoTab H0 H')
    (turn : ∀ i x T σ H, xs[i]? = some x → Pv i σ H → H T = none → g (.ref T) σ (upd H T (.tup [.int (i : Nat), x])) fun σ2 H2 => tb { D with nx := Pv (i + 1), ct := Pv (i + 1), bk := D.nx } σ2 H2) (fin : ∀ σ H, Pv xs.length σ H → D.nx σ H) :
    ((∃ xs, SqL K H0 a xs) ∧ ForR (Ite K a) g tb D σ H0) ∨ ((∃ xs, SqT K H0 a xs) ∧ ForR (IteT K a) g tb D σ H0) := by
  have tn : ∀ i v σ H H', i < xs.length → Pv i σ H → YPair (fun i => some (.int (i : Nat))) (fun i => xs[i]?) i H v H' → g v σ H' fun σ2 H2 => tb { D with nx := Pv (i + 1), ct := Pv (i + 1), bk := D.nx } σ2 H2 := by
    rintro i v σ H H' _ hp ⟨T, x, y, rfl, nT, rfl, e1, e2⟩
    cases e1
    exact turn i y T σ H e2 hp nT
  rcases hq with h | h
  · exact .inl ⟨⟨xs, SqL.of h⟩, for_it walk_enum Pv h0 (fun i σ H' _ p => SqL.of ((hl i σ H' p).lst h)) tn fin⟩
  · exact .inr ⟨⟨xs, .inl (.inl h)⟩, for_it walk_enT Pv h0 (fun i σ H' _ p => .inl (.inl ((hl i σ H' p).tup h))) tn fin⟩
def spNums (K : PySem.W.Frag) (Ms : GX.Mq) (Xs : List Addr) (Pn : Addr) : Sp := fun vs H Q _ => ∃ (a : Addr) (ns : List Int), vs = [.ref a] ∧ IntsQ H a ns ∧ (∀ x ∈ ns, 0 ≤ x) ∧ GX.TQ Ms Xs H ∧ Pn ∈ Ms ∧ ∀ H2, GX.NoTab H H2 → GX.TQ Ms Xs H2 → Q (.bl true) H2
def spRising (K : PySem.W.Frag) (Ms : GX.Mq) (Xs : List Addr) (Pn Pr : Addr) : Sp := fun vs H Q _ => ∃ (a : Addr) (ns : List Int), vs = [.ref a] ∧ IntsQ H a ns ∧ (∀ x ∈ ns, 0 ≤ x) ∧ ns.Pairwise (· < ·) ∧ GX.TQ Ms Xs H ∧ Pn ∈ Ms ∧ Pr ∈ Ms ∧ ∀ H2, GX.NoTab H H2 → GX.TQ Ms Xs H2 → Q (.bl true) H2
def spBelow (K : PySem.W.Frag) (Ms : GX.Mq) (Xs : List Addr) (Pn Pr Pb : Addr) : Sp := fun vs H Q _ => ∃ (a : Addr) (ns : List Int) (m : Int), vs = [.ref a, .int m] ∧ IntsQ H a ns ∧ (∀ x ∈ ns, 0 ≤ x ∧ x < m) ∧ ns.Pairwise (· < ·) ∧ GX.TQ Ms Xs H ∧ Pn ∈ Ms ∧ Pr ∈ Ms ∧ Pb ∈ Ms ∧ ∀ H2, GX.NoTab H H2 → GX.TQ Ms Xs H2 → Q (.bl true) H2
def spEach (K : PySem.W.Frag) (Ms : GX.Mq) (Xs : List Addr) (Pe : Addr) : Sp := fun vs H Q _ => ∃ (a b : Addr) (rs : List (Int × Int)) (ns : List Int), vs = [.ref a, .ref b] ∧ LsQ H a rs ∧ IntsQ H b ns ∧ (∀ r ∈ rs, ∃ p ∈ ns, inR r p) ∧ GX.TQ Ms Xs H ∧ Pe ∈ Ms ∧ ∀ H2, GX.NoTab H H2 → GX.TQ Ms Xs H2 → Q (.bl true) H2
abbrev sNums : Stmt := topS 12
theorem scNums : FnScope ["thing", "one"] ["thing"] (defScope sNums) := ⟨rfl, rfl, rfl, by decide +kernel, rfl, by decide +kernel, by decide +kernel⟩
abbrev sRising : Stmt := topS 13
theorem scRising : FnScope ["thing", "one", "other"] ["thing"] (defScope sRising) := ⟨rfl, rfl, rfl, by decide +kernel, rfl, by decide +kernel, by decide +kernel⟩
abbrev sBelow : Stmt := topS 14
theorem scBelow : FnScope ["thing", "many", "one"] ["thing", "many"] (defScope sBelow) := ⟨rfl, rfl, rfl, by decide +kernel, rfl, by decide +kernel, by decide +kernel⟩
abbrev sEach : Stmt := topS 16
theorem scEach : FnScope ["runs", "numbers", "first", "last", "number"] ["runs", "numbers"] (defScope sEach) := ⟨rfl, rfl, rfl, by decide +kernel, rfl, by decide +kernel, by decide +kernel⟩
section
variable {K : PySem.W.Frag} {mg : Str → Option Value} {P : Program} {w : World} {base : Heap} {Pn Pr Pb Pe Py : Addr}
theorem ok_Nums {Ms : GX.Mq} {Xs : List Addr} {f c Pn : Addr} {oc kV doc pm ct : Value} {od an : Option Addr} {osl : Array (Option Value)} (lk : K.lookup f = some ⟨oc, od, .func (PySem.W.fnOf "are_numbers" "are_numbers" (defArgs sNums) (defBody sNums) (defScope sNums) .none kV doc pm an (.ref c) ct), osl⟩) (hcd : PySem.W.codeIn K (.ref c) "are_numbers" = true) (TG : GxR.TabB base mg c Pn) (C_is_row : Cal P w K mg base 1 "is_row" ["thing"] spIsRow) (C_is_number : Cal P w K mg base 1 "is_number" ["thing"] spIsNum) (m_all : mg "all" = none) : FnOk P w K mg base CX0 5 f (PySem.W.fnOf "are_numbers" "are_numbers" (defArgs sNums) (defBody sNums) (defScope sNums) .none kV doc pm an (.ref c) ct) ["thing"] (spNums K Ms Xs Pn) := by
  refine fn_of lk hcd scNums (fun vs H Q E h => ?_) (fun A outer s H vs Q E hr h => ?_)
  · obtain ⟨a, ns, rfl, _⟩ := h
    rfl
  · obtain ⟨a, ns, rfl, hA, h0, hT, hP, q⟩ := h
    refine ⟨_, PSs.nox (pss_one (ps_ret (pe_and (pe_own C_is_row (hr.mono (show 1 ≤ 4 by decide)) (by rfl) (pa_cons (pv 0) pa_nil)) (pe_one (GX.pe_allX (k := 1) (own := [("one", 1)]) (te := fun code1 => (tCall spIsNum [] E0 (tCons (tVar 1) tNil))) (g' := (gName 1)) (tt := tYes) hr scNums.nd (by rfl) m_all TG.bm (pi_seq (pv 0)) (GX.pc_own (Ms := Ms) (Xs := Xs) TG rfl) (GX.gok_by (own := [("one", 1)]) (N := ["thing", "one"]) (sc := defScope sNums) (by decide +kernel)) (fun _ _ _ _ _ r1 gd1 => (pg_name (i := 1) scNums.nd rfl (.inl rfl))) (fun _ _ _ _ _ r1 gd1 => pts_nil) (fun _ _ _ code1 _ r1 gd1 => (pe_own C_is_number r1 (by rfl) (pa_cons (pv 1) pa_nil)))))))), ?_⟩
    refine ⟨_, rfl, a, _, rfl, hA, fun H1 s1 => ⟨_, rfl, iteT ?_⟩⟩
    have n1 := NoTab.same s1
    refine ⟨_, rfl, a, rfl, iseq_gx (hA.noTab n1) fun J G wk hG => ⟨hT.same s1, hP, fun H2 c' P' n2 t2 nX eC tG => GX.turns_all wk (fun _ => true) (fun Hx => GX.NoTab H1 Hx ∧ GX.TQ Ms Xs Hx) ⟨n2, t2⟩ (fun Hx iv => hG Hx iv.1) (fun i x Hx Hx' Kt Kn hi iv hy kt _ => ?_) (fun H3 b iv hb => ?_)⟩⟩
    · obtain ⟨rfl, hx⟩ := hy
      rw [List.getElem?_map] at hx
      obtain ⟨p, ep, rfl⟩ := Option.map_eq_some_iff.mp hx
      exact ⟨rfl, _, rfl, p, rfl, h0 p (List.mem_of_getElem? ep), kt _ iv⟩
    · rw [hb.mpr fun _ _ => rfl]
      exact q H3 (n1.trans iv.1) iv.2
theorem ok_Rising {Ms : GX.Mq} {Xs : List Addr} {f c Pr : Addr} {oc kV doc pm ct : Value} {od an : Option Addr} {osl : Array (Option Value)} (lk : K.lookup f = some ⟨oc, od, .func (PySem.W.fnOf "are_rising" "are_rising" (defArgs sRising) (defBody sRising) (defScope sRising) .none kV doc pm an (.ref c) ct), osl⟩) (hcd : PySem.W.codeIn K (.ref c) "are_rising" = true) (TG : GxR.TabB base mg c Pr) (C_are_numbers : Cal P w K mg base 5 "are_numbers" ["thing"] (spNums K Ms Xs Pn)) (m_all : mg "all" = none) (m_zip : mg "zip" = none) : FnOk P w K mg base CX0 6 f (PySem.W.fnOf "are_rising" "are_rising" (defArgs sRising) (defBody sRising) (defScope sRising) .none kV doc pm an (.ref c) ct) ["thing"] (spRising K Ms Xs Pn Pr) := by
  refine fn_of lk hcd scRising (fun vs H Q E h => ?_) (fun A outer s H vs Q E hr h => ?_)
  · obtain ⟨a, ns, rfl, _⟩ := h
    rfl
  · obtain ⟨a, ns, rfl, hA, h0, hI, hT, hPn, hP, q⟩ := h
    refine ⟨_, PSs.nox (pss_one (ps_ret (pe_and (pe_own C_are_numbers hr (by rfl) (pa_cons (pv 0) pa_nil)) (pe_one (GX.pe_allX (k := 2) (own := [("one", 1), ("other", 2)]) (te := fun code1 => (tOp (rI0 fun i j => .bl (decide (i < j))) (tVar 1) (tVar 2))) (g' := (gTup K 2 (gCons (gName 1) (gCons (gName 2) gNil)))) (tt := tYes) hr scRising.nd (by rfl) m_all TG.bm (pi_zipQ (by rfl) m_zip (pa_cons (pv 0) (pa_cons (pe_slice sl_seq (pv 0) (po_some pe_int) po_none) pa_nil))) (GX.pc_own (Ms := Ms) (Xs := Xs) TG rfl) (GX.gok_by (own := [("one", 1), ("other", 2)]) (N := ["thing", "one", "other"]) (sc := defScope sRising) (by decide +kernel)) (fun _ _ _ _ _ r1 gd1 => (pg_tup rfl (pgs_cons (pg_name (i := 1) scRising.nd rfl (.inl rfl)) (pgs_cons (pg_name (i := 2) scRising.nd rfl (.inl rfl)) pgs_nil)))) (fun _ _ _ _ _ r1 gd1 => pts_nil) (fun _ _ _ code1 _ r1 gd1 => (pe_cmpR op_lt (pv 1) (pv 2) (nomark _)))))))), ?_⟩
    refine ⟨_, rfl, a, ns, rfl, hA, h0, hT, hPn, fun H1 n1 t1 => ⟨_, rfl, iteT ?_⟩⟩
    have hA1 := hA.noTab n1
    have lx : (ns.map V.int).length = ns.length := List.length_map ..
    have main : ∀ (J : It) (G : Hp → Prop) (H0 : Hp), GX.NoTab H1 H0 → GX.TQ Ms Xs H0 → Walk J (ns.length - 1) G (YPair (fun i => (ns.map V.int)[i]?) (fun i => ((ns.map V.int).drop 1)[i]?)) → (∀ H', GX.NoTab H0 H' → G H') →
        GxJ J () GX.stAll GX.fiAll (GX.tCo Ms Xs Pr) (gTup K 2 (gCons (gName 1) (gCons (gName 2) gNil))) tYes (fun _ => tOp (rI0 fun i j => .bl (decide (i < j))) (tVar 1) (tVar 2)) (List.map (fun x => x.2) [(("one" : Str), 1), (("other" : Str), 2)]) (L2.start ["thing", "one", "other"] [.ref a]) H0 Q := fun J G H0 nx tx wk hG => by
      refine ⟨tx, hP, fun H2 c' P' n2 t2 nX eC tG => GX.turns_all wk (fun _ => true) (fun Hx => GX.NoTab H0 Hx ∧ GX.TQ Ms Xs Hx) ⟨n2, t2⟩ (fun Hx iv => hG Hx iv.1) (fun i x Hx Hx' Kt Kn hi iv hy kt _ => ?_) (fun H3 b iv hb => ?_)⟩
      · obtain ⟨T, u, v, rfl, nT, rfl, e1, e2⟩ := hy
        have l1 : i < ns.length := by omega
        have l2 : i + 1 < ns.length := by omega
        have e1 : (ns.map V.int)[i]? = some u := e1
        have e2 : ((ns.map V.int).drop 1)[i]? = some v := e2
        rw [List.getElem?_map, List.getElem?_eq_getElem l1] at e1
        rw [List.getElem?_drop, List.getElem?_map, show 1 + i = i + 1 by omega, List.getElem?_eq_getElem l2] at e2
        cases e1
        cases e2
        have lt : ns[i] < ns[i + 1] := List.pairwise_iff_getElem.mp hI i (i + 1) l1 l2 (by omega)
        have sT := same_upd (o := .tup [.int ns[i], .int ns[i + 1]]) nT
        refine ⟨T, _, rfl, .inl (.inl upd_same), rfl, _, _, rfl, _, _, rfl, rfl, rfl, _, rfl, _, rfl, _, _, rfl, rfl, ?_⟩
        have := kt _ ⟨iv.1.trans (NoTab.same sT), iv.2.same sT⟩
        rw [← decide_eq_true lt] at this
        exact this
      · rw [hb.mpr fun _ _ => rfl]
        exact q H3 ((n1.trans nx).trans iv.1) iv.2
    have ld : ((ns.map V.int).drop 1).length = ns.length - 1 := by rw [List.length_drop, lx]
    refine .inl ⟨_, rfl, _, rfl, _, rfl, rSlQ.tail hA1 fun p H0 s0 c => ?_⟩
    have nx := NoTab.same s0
    have tx := t1.same s0
    rcases c with ⟨e1, e2⟩ | ⟨e1, e2⟩
    · have e1' := s0 _ _ e1
      exact ⟨a, p, _, _, rfl, .inl ⟨SqL.of e1', SqL.of e2, main _ _ H0 nx tx (walk_zip (by rw [ld, lx]; omega)) fun H' n => ⟨SqL.of (n.lst e1'), SqL.of (n.lst e2)⟩⟩⟩
    · have e1' := s0 _ _ e1
      exact ⟨a, p, _, _, rfl, .inr ⟨.inl (.inl e1'), .inl (.inl e2), main _ _ H0 nx tx (walk_zipTn (by rw [ld, lx]; omega)) fun H' n => ⟨.inl (.inl (n.tup e1')), .inl (.inl (n.tup e2))⟩⟩⟩
theorem ok_Below {Ms : GX.Mq} {Xs : List Addr} {f c Pb : Addr} {oc kV doc pm ct : Value} {od an : Option Addr} {osl : Array (Option Value)} (lk : K.lookup f = some ⟨oc, od, .func (PySem.W.fnOf "are_rising_below" "are_rising_below" (defArgs sBelow) (defBody sBelow) (defScope sBelow) .none kV doc pm an (.ref c) ct), osl⟩) (hcd : PySem.W.codeIn K (.ref c) "are_rising_below" = true) (TG : GxR.TabB base mg c Pb) (C_are_rising : Cal P w K mg base 6 "are_rising" ["thing"] (spRising K Ms Xs Pn Pr)) (m_all : mg "all" = none) : FnOk P w K mg base CX0 7 f (PySem.W.fnOf "are_rising_below" "are_rising_below" (defArgs sBelow) (defBody sBelow) (defScope sBelow) .none kV doc pm an (.ref c) ct) ["thing", "many"] (spBelow K Ms Xs Pn Pr Pb) := by
  refine fn_of lk hcd scBelow (fun vs H Q E h => ?_) (fun A outer s H vs Q E hr h => ?_)
  · obtain ⟨a, ns, m, rfl, _⟩ := h
    rfl
  · obtain ⟨a, ns, m, rfl, hA, h0, hI, hT, hPn, hPr, hP, q⟩ := h
    refine ⟨_, PSs.nox (pss_one (ps_ret (pe_and (pe_own C_are_rising hr (by rfl) (pa_cons (pv 0) pa_nil)) (pe_one (GX.pe_allX (k := 3) (own := [("one", 2)]) (te := fun code1 => (tOp (rI0 fun i j => .bl (decide (i < j))) (tVar 2) (tVar 1))) (g' := (gName 2)) (tt := tYes) hr scBelow.nd (by rfl) m_all TG.bm (pi_seq (pv 0)) (GX.pc_own (Ms := Ms) (Xs := Xs) TG rfl) (GX.gok_by (own := [("one", 2)]) (N := ["thing", "many", "one"]) (sc := defScope sBelow) (by decide +kernel)) (fun _ _ _ _ _ r1 gd1 => (pg_name (i := 2) scBelow.nd rfl (.inl rfl))) (fun _ _ _ _ _ r1 gd1 => pts_nil) (fun _ _ _ code1 _ r1 gd1 => (pe_cmpR op_lt (pv 2) (pv 1) (nomark _)))))))), ?_⟩
    refine ⟨_, rfl, a, ns, rfl, hA, fun x hx => (h0 x hx).1, hI, hT, hPn, hPr, fun H1 n1 t1 => ⟨_, rfl, iteT ?_⟩⟩
    refine ⟨_, rfl, a, rfl, iseq_gx (hA.noTab n1) fun J G wk hG => ⟨t1, hP, fun H2 c' P' n2 t2 nX eC tG => GX.turns_all wk (fun _ => true) (fun Hx => GX.NoTab H1 Hx ∧ GX.TQ Ms Xs Hx) ⟨n2, t2⟩ (fun Hx iv => hG Hx iv.1) (fun i x Hx Hx' Kt Kn hi iv hy kt _ => ?_) (fun H3 b iv hb => ?_)⟩⟩
    · obtain ⟨rfl, hx⟩ := hy
      rw [List.getElem?_map] at hx
      obtain ⟨p, ep, rfl⟩ := Option.map_eq_some_iff.mp hx
      refine ⟨rfl, _, rfl, _, rfl, _, _, rfl, rfl, ?_⟩
      have := kt Hx' iv
      rw [← decide_eq_true (h0 p (List.mem_of_getElem? ep)).2] at this
      exact this
    · rw [hb.mpr fun _ _ => rfl]
      exact q H3 (n1.trans iv.1) iv.2
theorem ok_Each {Ms : GX.Mq} {Xs : List Addr} {f c Pe : Addr} {oc kV doc pm ct : Value} {od an : Option Addr} {osl : Array (Option Value)} (lk : K.lookup f = some ⟨oc, od, .func (PySem.W.fnOf "each_has_one" "each_has_one" (defArgs sEach) (defBody sEach) (defScope sEach) .none kV doc pm an (.ref c) ct), osl⟩) (hcd : PySem.W.codeIn K (.ref c) "each_has_one" = true) (TG : GxR.TabB base mg c Pe) (m_all : mg "all" = none) (m_any : mg "any" = none) : FnOk P w K mg base CX0 8 f (PySem.W.fnOf "each_has_one" "each_has_one" (defArgs sEach) (defBody sEach) (defScope sEach) .none kV doc pm an (.ref c) ct) ["runs", "numbers"] (spEach K Ms Xs Pe) := by
  refine fn_of lk hcd scEach (fun vs H Q E h => ?_) (fun A outer s H vs Q E hr h => ?_)
  · obtain ⟨a, b, rs, ns, rfl, _⟩ := h
    rfl
  · obtain ⟨a, b, rs, ns, rfl, hA, hB, hh, hT, hP, q⟩ := h
    refine ⟨_, PSs.nox (pss_one (ps_ret (GX.pe_allX (k := 4) (own := [("first", 2), ("last", 3)]) (te := fun code1 => (GX.tGx () GX.stAny GX.fiAny (GX.tCj Ms Xs code1) (iSeq K (tVar 1)) (gName 4) tYes (fun code2 => (tChain (rI0 fun i j => .bl (decide (i ≤ j))) (rI0 fun i j => .bl (decide (i ≤ j))) (tVar 2) (tVar 4) (tVar 3))) (List.map (fun x => x.2) [("number", 4)]))) (g' := (gTup K 2 (gCons (gName 2) (gCons (gName 3) gNil)))) (tt := tYes) hr scEach.nd (by rfl) m_all TG.bm (pi_seq (pv 0)) (GX.pc_own (Ms := Ms) (Xs := Xs) TG rfl) (GX.gok_by (own := [("first", 2), ("last", 3)]) (N := ["runs", "numbers", "first", "last", "number"]) (sc := defScope sEach) (by decide +kernel)) (fun _ _ _ _ _ r1 gd1 => (pg_tup rfl (pgs_cons (pg_name (i := 2) scEach.nd rfl (.inr rfl)) (pgs_cons (pg_name (i := 3) scEach.nd rfl (.inr rfl)) pgs_nil)))) (fun _ _ _ _ _ r1 gd1 => pts_nil) (fun _ _ _ code1 _ r1 gd1 => (GX.pe_anyX (k := 1) (own := [("number", 4)]) (te := fun code2 => (tChain (rI0 fun i j => .bl (decide (i ≤ j))) (rI0 fun i j => .bl (decide (i ≤ j))) (tVar 2) (tVar 4) (tVar 3))) (g' := (gName 4)) (tt := tYes) r1 scEach.nd (by rfl) m_any TG.bm (pi_seq (pv 1)) (GX.pc_in (Ms := Ms) (Xs := Xs) (code := code1) rfl) (GX.gok_by (own := [("number", 4)]) (N := ["runs", "numbers", "first", "last", "number"]) (by show GX.gokB _ ({ kind := .function, names := [(".0", .local), ("first", .cell), ("last", .cell), ("numbers", .free), ("any", .globalImplicit)], isGenerator := true, isCoroutine := false } : Scope) _ _ = true; decide +kernel)) (fun _ _ _ _ _ r2 gd2 => (pg_name (i := 4) scEach.nd rfl (.inl rfl))) (fun _ _ _ _ _ r2 gd2 => pts_nil) (fun _ _ _ code2 _ r2 gd2 => (pe_chain op_le op_le (pv 2) (pv 4) (pv 3)))))))), ?_⟩
    obtain ⟨us, eA, pr⟩ := id hA
    refine ⟨_, rfl, a, rfl, iseq_gx eA fun J G wk hG => ⟨hT, hP, fun H2 c' P' n2 t2 nX eC tG => GX.turns_all wk (fun _ => true) (fun Hx => GX.NoTab H2 Hx ∧ GX.TQ Ms Xs Hx ∧ GxR.TabG Hx P') ⟨GX.NoTab.refl _, t2, tG⟩ (fun Hx iv => hG Hx (n2.trans iv.1)) (fun i x Hx Hx' Kt Kn hi iv hy kt _ => ?_) (fun Hx bb iv hb => ?_)⟩⟩
    · obtain ⟨rfl, hx⟩ := hy
      obtain ⟨n3, t3, g3⟩ := iv
      obtain ⟨r, T, er, rfl, eT⟩ := prs_at pr hx
      have eTx := n3.tup (n2.tup eT)
      refine ⟨T, _, rfl, .inl (.inl eTx), rfl, _, _, rfl, _, _, rfl, rfl, rfl, ?_⟩
      obtain ⟨p, hp, hr⟩ := hh r (List.mem_of_getElem? er)
      refine ⟨_, rfl, b, rfl, iseq_gx (hB.noTab (n2.trans n3)) fun J2 G2 wk2 hG2 => ⟨c', P', rfl, n3.code eC, nX, g3, t3, fun H4 code4 n4 t4 g4 => GX.turns_any wk2 (fun j => decide (r.1 ≤ ns.getD j 0) && decide (ns.getD j 0 ≤ r.2)) (fun Hy => GX.NoTab Hx' Hy ∧ GX.TQ Ms Xs Hy ∧ GxR.TabG Hy P') ⟨n4, t4, g4⟩ (fun Hy iv => hG2 Hy iv.1) (fun j y Hy Hy' Kt2 Kn2 hj iv2 hy2 kt2 _ => ?_) (fun Hy b2 iv2 hb2 => ?_)⟩⟩
      · obtain ⟨rfl, hx2⟩ := hy2
        rw [List.getElem?_map] at hx2
        obtain ⟨n, en, rfl⟩ := Option.map_eq_some_iff.mp hx2
        have e : ns.getD j 0 = n := by rw [List.getD_eq_getElem?_getD, en]; rfl
        rw [e] at kt2
        refine ⟨rfl, _, rfl, _, rfl, _, _, rfl, rfl, _, rfl, ite2 (fun c1 => ⟨_, rfl, _, _, rfl, rfl, ?_⟩) (fun c1 => ?_)⟩
        · rw [c1] at kt2
          exact kt2 _ iv2
        · rw [Bool.eq_false_iff.mpr c1] at kt2
          exact kt2 _ iv2
      · have e2 : b2 = true := hb2.mpr (by
          obtain ⟨j, hj, e⟩ := List.getElem_of_mem hp
          refine ⟨j, by rw [List.length_map]; exact hj, ?_⟩
          rw [List.getD_eq_getElem?_getD, List.getElem?_eq_getElem hj]
          show (decide (r.1 ≤ ns[j]) && decide (ns[j] ≤ r.2)) = true
          rw [e, decide_eq_true hr.1, decide_eq_true hr.2]
          rfl)
        rw [e2]
        exact kt Hy ⟨n3.trans iv2.1, iv2.2.1, iv2.2.2⟩
    · rw [hb.mpr fun _ _ => rfl]
      exact q Hx (n2.trans iv.1) iv.2.1
end

/-! ### what shows samples -/
/-- two runs share nothing that is not gone -/
def FarR (gs : List (Int × Int)) (r q : Int × Int) : Prop := ∀ n, ¬ (((r.1 ≤ n ∧ n ≤ r.2) ∧ (q.1 ≤ n ∧ n ≤ q.2)) ∧ ¬ InS gs n)
def spIsIn (K : PySem.W.Frag) (Ms : GX.Mq) (Xs : List Addr) (Pi : Addr) : Sp := fun vs H Q _ => ∃ (a : Addr) (gs : List (Int × Int)) (n : Int), vs = [.ref a, .int n] ∧ LsQ H a gs ∧ GX.TQ Ms Xs H ∧ Pi ∈ Ms ∧ ∀ H2, GX.NoTab H H2 → GX.TQ Ms Xs H2 → Q (.bl (goneB gs n)) H2
def spApart (K : PySem.W.Frag) (Ms : GX.Mq) (Xs : List Addr) (Pa : Addr) : Sp := fun vs H Q _ => ∃ (a b c : Addr) (rs gs : List (Int × Int)) (ap : List Int), vs = [.ref a, .ref b, .ref c] ∧ LsQ H a rs ∧ LsQ H b gs ∧ IntsQ H c ap ∧ rs.length ≤ 700 ∧ gs.length ≤ 100 ∧ ap.length ≤ 700 ∧ (∀ r ∈ rs, r.1 ≤ r.2) ∧ Ris 0 gs ∧ (∀ p ∈ ap, 0 ≤ p ∧ p < rs.length) ∧ GX.TQ Ms Xs H ∧ Pa ∈ Ms ∧
  ∀ H2 (bb : Bool), GX.NoTab H H2 → GX.TQ Ms Xs H2 → (bb = true ↔ ∀ (i j : Nat) p q rp rq, j < i → ap[i]? = some p → ap[j]? = some q → rs[p.toNat]? = some rp → rs[q.toNat]? = some rq → FarR gs rq rp) → Q (.bl bb) H2
def spSBlind (K : PySem.W.Frag) : Sp := fun vs H Q _ => ∃ (a b t : Addr) (rs gs : List (Int × Int)) (ts : List V), vs = [.ref a, .ref b, .ref t] ∧ LsQ H a rs ∧ LsQ H b gs ∧ H t = some (.tup ts) ∧ rs.length ≤ 700 ∧ gs.length ≤ 100 ∧ (∀ r ∈ rs, r.1 ≤ r.2) ∧ Ris 0 gs ∧
  ((ts.length ≠ 2 ∧ Q (.bl false) H) ∨ ∃ (i : Nat) (r : Int × Int), ts = [.str "blind", .int (i : Int)] ∧ rs[i]? = some r ∧ allGB gs r = true ∧ (∀ (j : Nat) r', j < i → rs[j]? = some r' → allGB gs r' = false) ∧ ∀ H2, Same H H2 → Q (.bl true) H2)
abbrev sIsIn : Stmt := topS 5
theorem scIsIn : FnScope ["some", "number", "first", "last"] ["some", "number"] (defScope sIsIn) := ⟨rfl, rfl, rfl, by decide +kernel, rfl, by decide +kernel, by decide +kernel⟩
abbrev sApart : Stmt := topS 17
theorem scApart : FnScope ["runs", "gone", "apart", "left", "number", "other", "one"] ["runs", "gone", "apart"] (defScope sApart) := ⟨rfl, rfl, rfl, by decide +kernel, rfl, by decide +kernel, by decide +kernel⟩
abbrev sSBlind : Stmt := topS 18
theorem scSBlind : FnScope ["runs", "gone", "told", "left", "run"] ["runs", "gone", "told"] (defScope sSBlind) := ⟨rfl, rfl, rfl, by decide +kernel, rfl, by decide +kernel, by decide +kernel⟩
section
variable {K : PySem.W.Frag} {mg : Str → Option Value} {P : Program} {w : World} {base : Heap}
theorem ok_IsIn {Ms : GX.Mq} {Xs : List Addr} {f c Pi : Addr} {oc kV doc pm ct : Value} {od an : Option Addr} {osl : Array (Option Value)} (lk : K.lookup f = some ⟨oc, od, .func (PySem.W.fnOf "is_in" "is_in" (defArgs sIsIn) (defBody sIsIn) (defScope sIsIn) .none kV doc pm an (.ref c) ct), osl⟩) (hcd : PySem.W.codeIn K (.ref c) "is_in" = true) (TG : GxR.TabB base mg c Pi) (m_any : mg "any" = none) : FnOk P w K mg base CX0 4 f (PySem.W.fnOf "is_in" "is_in" (defArgs sIsIn) (defBody sIsIn) (defScope sIsIn) .none kV doc pm an (.ref c) ct) ["some", "number"] (spIsIn K Ms Xs Pi) := by
  refine fn_of lk hcd scIsIn (fun vs H Q E h => ?_) (fun A outer s H vs Q E hr h => ?_)
  · obtain ⟨a, gs, n, rfl, _⟩ := h
    rfl
  · obtain ⟨a, gs, n, rfl, hA, hT, hP, q⟩ := h
    refine ⟨_, PSs.nox (pss_one (ps_ret (GX.pe_anyX (k := 0) (own := [("first", 2), ("last", 3)]) (te := fun code1 => (tChain (rI0 fun i j => .bl (decide (i ≤ j))) (rI0 fun i j => .bl (decide (i ≤ j))) (tVar 2) (tVar 1) (tVar 3))) (g' := (gTup K 2 (gCons (gName 2) (gCons (gName 3) gNil)))) (tt := tYes) hr scIsIn.nd (by rfl) m_any TG.bm (pi_seq (pv 0)) (GX.pc_own (Ms := Ms) (Xs := Xs) TG rfl) (GX.gok_by (own := [("first", 2), ("last", 3)]) (N := ["some", "number", "first", "last"]) (sc := defScope sIsIn) (by decide +kernel)) (fun _ _ _ _ _ r1 gd1 => (pg_tup rfl (pgs_cons (pg_name (i := 2) scIsIn.nd rfl (.inl rfl)) (pgs_cons (pg_name (i := 3) scIsIn.nd rfl (.inl rfl)) pgs_nil)))) (fun _ _ _ _ _ r1 gd1 => pts_nil) (fun _ _ _ code1 _ r1 gd1 => (pe_chain op_le op_le (pv 2) (pv 1) (pv 3)))))), ?_⟩
    obtain ⟨us, eA, pr⟩ := id hA
    have lu := pr.1
    refine ⟨_, rfl, a, rfl, iseq_gx eA fun J G wk hG => ⟨hT, hP, fun H2 c' P' n2 t2 nX eC tG => GX.turns_any wk (fun i => inB2 (gs.getD i (0, 0)) n) (fun Hx => GX.NoTab H2 Hx ∧ GX.TQ Ms Xs Hx) ⟨GX.NoTab.refl _, t2⟩ (fun Hx iv => hG Hx (n2.trans iv.1)) (fun i x Hx Hx' Kt Kn hi iv hy kt _ => ?_) (fun Hx bb iv hb => ?_)⟩⟩
    · obtain ⟨rfl, hx⟩ := hy
      obtain ⟨r, T, er, rfl, eT⟩ := prs_at pr hx
      have e : gs.getD i (0, 0) = r := by rw [List.getD_eq_getElem?_getD, er]; rfl
      rw [e] at kt
      refine ⟨T, _, rfl, .inl (.inl (iv.1.tup (n2.tup eT))), rfl, _, _, rfl, _, _, rfl, rfl, rfl, ?_⟩
      refine ⟨_, rfl, _, rfl, _, _, rfl, rfl, _, rfl, ite2 (fun c1 => ⟨_, rfl, _, _, rfl, rfl, ?_⟩) (fun c1 => ?_)⟩
      · have this : Kt (V.bl (decide (r.1 ≤ n) && decide (n ≤ r.2))) _ := kt _ iv
        rw [c1] at this
        exact this
      · have this : Kt (V.bl (decide (r.1 ≤ n) && decide (n ≤ r.2))) _ := kt _ iv
        rw [Bool.eq_false_iff.mpr c1] at this
        exact this
    · have e : bb = goneB gs n := by
        rw [Bool.eq_iff_iff, hb, goneB, List.any_eq_true]
        constructor
        · rintro ⟨i, hi, z⟩
          have hi' : i < gs.length := by omega
          rw [List.getD_eq_getElem?_getD, List.getElem?_eq_getElem hi'] at z
          exact ⟨_, List.getElem_mem hi', z⟩
        · rintro ⟨r, hr, z⟩
          obtain ⟨i, hi, rfl⟩ := List.getElem_of_mem hr
          refine ⟨i, by omega, ?_⟩
          rw [List.getD_eq_getElem?_getD, List.getElem?_eq_getElem hi]
          exact z
      rw [e]
      exact q Hx (n2.trans iv.1) iv.2
theorem ok_Apart {Ms : GX.Mq} {Xs : List Addr} {f c Pa : Addr} {oc kV doc pm ct : Value} {od an : Option Addr} {osl : Array (Option Value)} (lk : K.lookup f = some ⟨oc, od, .func (PySem.W.fnOf "are_apart" "are_apart" (defArgs sApart) (defBody sApart) (defScope sApart) .none kV doc pm an (.ref c) ct), osl⟩) (hcd : PySem.W.codeIn K (.ref c) "are_apart" = true) (TG : GxR.TabB base mg c Pa) (C_without : Cal P w K mg base 3 "without" ["one", "other"] (spWithout K)) (C_both_of : Cal P w K mg base 1 "both_of" ["one", "other"] (spBoth K)) (m_all : mg "all" = none) (m_len : mg "len" = none) (m_range : mg "range" = none) : FnOk P w K mg base CX0 5 f (PySem.W.fnOf "are_apart" "are_apart" (defArgs sApart) (defBody sApart) (defScope sApart) .none kV doc pm an (.ref c) ct) ["runs", "gone", "apart"] (spApart K Ms Xs Pa) := by
  refine fn_of lk hcd scApart (fun vs H Q E h => ?_) (fun A outer s H vs Q E hr h => ?_)
  · obtain ⟨a, b, c, rs, gs, ap, rfl, _⟩ := h
    rfl
  · obtain ⟨a, b, c, rs, gs, ap, rfl, hA, hB, hC, hra, hgb, hap, hro, hrg, hrng, hT, hP, q⟩ := h
    refine ⟨_, PSs.nox (pss_cons (ps_set (i := 3) scApart.nd rfl (.inr rfl) (pe_lc (own := [("number", 4)]) (g := (gName 4)) (tt := tYes) (te := (tCall (spWithout K) [] E0 (tCons (tLst (tCons (tOp (TK.rIxS K) (tVar 0) (tVar 4)) tNil)) (tCons (tVar 1) tNil)))) rfl scApart.nd (pi_seq (pv 2)) (blkOk_by (own := [("number", 4)]) (N := ["runs", "gone", "apart", "left", "number", "other", "one"]) (sc := defScope sApart) (by decide +kernel)) (fun _ _ _ _ _ => (pg_name (i := 4) scApart.nd rfl (.inl rfl))) (fun _ _ _ _ _ => pts_nil) (fun _ _ _ _ _ => (pe_own C_without (hr.mono (show 3 ≤ 4 by decide)) (by rfl) (pa_cons (pe_lst (pa_cons (pe_ix ix_seq (pv 0) (pv 4) (fun _ _ => rfl)) pa_nil)) (pa_cons (pv 1) pa_nil))))))
      (pss_one (ps_ret (GX.pe_allX2 (k := 1) (own := [("other", 5), ("one", 6)]) (vs2 := [6]) (te := fun code1 => (tOp (rEqD K) (tCall (spBoth K) [] E0 (tCons (tOp (rIxL K) (tVar 3) (tVar 6)) (tCons (tOp (rIxL K) (tVar 3) (tVar 5)) tNil))) (tLst tNil))) (g' := (gName 5)) (g2 := (gName 6)) (tt := tYes) (tt2 := tYes) hr scApart.nd (by rfl) m_all TG.bm (pi_range1 rfl m_range (pa_cons (pe_callB call_len_seq (by rfl) m_len PySem.boot_len (pa_cons (pv 3) pa_nil)) pa_nil)) (GX.pc_own (Ms := Ms) (Xs := Xs) TG rfl) (GX.gok_by (own := [("other", 5), ("one", 6)]) (N := ["runs", "gone", "apart", "left", "number", "other", "one"]) (sc := defScope sApart) (by decide +kernel)) (fun _ _ _ _ _ r1 gd1 => (pg_name (i := 5) scApart.nd rfl (.inl rfl))) (fun _ _ _ _ _ r1 gd1 => pts_nil) (fun _ _ _ _ _ r1 gd1 => (pi_range1 rfl m_range (pa_cons (pv 5) pa_nil))) (fun _ _ => rfl) (fun _ _ _ _ _ r1 gd1 => (pg_name (i := 6) scApart.nd rfl (.inl rfl))) (fun _ _ _ _ _ r1 gd1 => pts_nil) (by decide) (fun _ _ _ code1 _ r1 gd1 => (pe_cmpR (op_eqD r1.units) (pe_own C_both_of r1 (by rfl) (pa_cons (pe_ix ix_list (pv 3) (pv 6) (fun _ _ => rfl)) (pa_cons (pe_ix ix_list (pv 3) (pv 5) (fun _ _ => rfl)) pa_nil))) (pe_lst pa_nil) (nomark _))))))), ?_⟩
    obtain ⟨ua, ea, pa⟩ := id hA
    have lap : (ap.map V.int).length = ap.length := List.length_map ..
    obtain ⟨rs', ers⟩ : ∃ rs' : List (Int × Int), rs' = ap.map fun p => rs.getD p.toNat (0, 0) := ⟨_, rfl⟩
    have lrs : rs'.length = ap.length := by rw [ers, List.length_map]
    have ers' : ∀ (i : Nat) p r, ap[i]? = some p → rs[p.toNat]? = some r → rs'[i]? = some r := fun i p r e1 e2 => by
      rw [ers, List.getElem?_map, e1]
      show some (rs.getD p.toNat (0, 0)) = _
      rw [List.getD_eq_getElem?_getD, e2]
      rfl
    refine ⟨_, rfl, c, rfl, iseq_lc hC fun J G wk hG L nL => lc_it wk (fun j H' => Same H H' ∧ ∃ us ls, H' L = some (.lst us) ∧ LR H' us ls ∧ ls.length = j ∧ (∀ v ∈ us, v ≠ .ref L) ∧ (∀ (i : Nat) r l, rs'[i]? = some r → ls[i]? = some l → Told (fun n => (r.1 ≤ n ∧ n ≤ r.2) ∧ ¬ InS gs n) l) ∧ ∀ l ∈ ls, l.length ≤ gs.length + 2) ⟨same_upd nL, [], [], upd_same, LR.nil, rfl, (fun _ h => nomatch h), (fun i r l _ e => by simp at e), fun _ h => nomatch h⟩ (fun j H' _ hP => hG H' (NoTab.same hP.1)) (fun j x H'' H' hi hP hy => ?_) (fun H1 hP => ?_)⟩
    · obtain ⟨rfl, hx⟩ := hy
      obtain ⟨sm, us, ls, eL, hLR, hlj, hng, htold, hsz⟩ := hP
      rw [List.getElem?_map] at hx
      obtain ⟨p, ep, rfl⟩ := Option.map_eq_some_iff.mp hx
      obtain ⟨p0, p1⟩ := hrng p (List.mem_of_getElem? ep)
      obtain ⟨pn, rfl⟩ := Int.eq_ofNat_of_zero_le p0
      have hpl : pn < rs.length := by omega
      have er0 : rs[((pn : Nat) : Int).toNat]? = some rs[pn] := List.getElem?_eq_getElem hpl
      have er := ers' j _ _ ep er0
      have hrr := hro _ (List.getElem_mem hpl)
      obtain ⟨T, f1, eT⟩ := pa.2 pn _ (List.getElem?_eq_getElem hpl)
      generalize rs[pn] = r at er hrr eT
      have hj : j < rs'.length := (List.getElem?_eq_some_iff.mp er).1
      refine ⟨rfl, _, rfl, _, rfl, a, ua, (pn : Int), .ref T, rfl, rfl, (ea.same sm).sq, atI_nat f1, (by show 1 ≤ sizeLine; decide), fun l1 nl1 => ?_⟩
      have sl1 := same_upd (o := .lst [.ref T]) nl1
      have p1 : LsA (upd H' l1 (.lst [.ref T])) l1 [r] := ⟨_, upd_same, Prs.nil.snoc (sl1 _ _ (sm _ _ eT))⟩
      refine ⟨_, rfl, l1, b, [r], gs, rfl, p1.pr, (hB.same (sm.trans sl1)).pr, ⟨r.1, Int.le_refl _, hrr, True.intro⟩, ⟨0, hrg⟩, by show 1 + gs.length ≤ 800; omega, fun l2 l H4 nl2 hl2 htl hzl s4 => ?_⟩
      have eL4 := s4 _ _ (sl1 _ _ eL)
      have n2L : l2 ≠ L := fun z => by rw [z, sl1 _ _ eL] at nl2; cases nl2
      have lus : us.length = j := by rw [hLR.1, hlj]
      refine ⟨_, eL4, small1000 (by omega), fun b' o e => ?_, us ++ [.ref l2], ls ++ [l], upd_same, ?_, by rw [List.length_append, hlj]; rfl, fun v hv => ?_, (fun i r' l' er' el' => ?_), fun l' hl' => ?_⟩
      · rw [upd_ne (ne_of_none e nL)]
        exact s4 _ _ (sl1 _ _ (sm b' o e))
      · have h1 := (hLR.same (sl1.trans s4)).snoc hl2
        refine ⟨h1.1, fun i r' e => ?_⟩
        obtain ⟨x, f1, us', f2, f3⟩ := h1.2 i r' e
        have nx : x ≠ L := fun z => by
          have hm := List.mem_of_getElem? f1
          rcases List.mem_append.mp hm with y | y
          · exact hng _ y (by rw [z])
          · exact n2L ((V.ref.inj (List.mem_singleton.mp y)).symm.trans z)
        exact ⟨x, f1, us', by rw [upd_ne nx]; exact f2, f3.upd_lst eL4⟩
      · rcases List.mem_append.mp hv with z | z
        · exact hng v z
        · rw [List.mem_singleton.mp z]
          exact fun w => n2L (V.ref.inj w)
      · by_cases hi : i < ls.length
        · rw [List.getElem?_append_left hi] at el'
          exact htold i r' l' er' el'
        · rw [List.getElem?_append_right (by omega)] at el'
          have h0 : i - ls.length < 1 := (List.getElem?_eq_some_iff.mp el').1
          obtain rfl : i = ls.length := by omega
          rw [Nat.sub_self] at el'
          cases el'
          rw [hlj, er] at er'
          cases er'
          refine htl.cong fun n => ?_
          rw [inS_cons]
          exact ⟨fun ⟨z, y⟩ => ⟨z.elim id (fun w => absurd w inS_nil), y⟩, fun ⟨z, y⟩ => ⟨.inl z, y⟩⟩
      · rcases List.mem_append.mp hl' with z | z
        · exact hsz l' z
        · rw [List.mem_singleton.mp z]
          have : [r].length = 1 := rfl
          omega
    · obtain ⟨s1, us, ls, eL, hLR, hlj, hng, htold, hsz⟩ := hP
      rw [lap] at hlj
      have lus : us.length = ap.length := by rw [hLR.1, hlj]
      have t1 := hT.same s1
      have told : ∀ (i : Nat), i < ap.length → ∃ l m, ls[i]? = some l ∧ us[i]? = some (.ref m) ∧ LsA H1 m l := fun i hi => by
        have e : ls[i]? = some (ls[i]'(by omega)) := List.getElem?_eq_getElem _
        obtain ⟨m, f1, f2⟩ := hLR.2 i _ e
        exact ⟨_, m, e, f1, f2⟩
      have hris : ∀ (i : Nat) l, ls[i]? = some l → ∃ lo, Ris lo l := fun i l el => by
        have hi : i < ls.length := (List.getElem?_eq_some_iff.mp el).1
        exact (htold i _ l (List.getElem?_eq_getElem (by omega)) el).ris
      refine ⟨_, rfl, L, us, rfl, .inl (SqL.of eL), (us.length : Int), rfl, by omega, by omega, ?_⟩
      refine ⟨t1, hP, fun H2 c' P' n2 t2 nX eC tG => GX.turns_all2 (walk_range (lo := 0) (n := ((us.length : Int)).toNat)) (fun i => i) us.length (fun i hi => by omega) (fun i j => (bothF (ls.getD j []) (ls.getD i [])).isEmpty) (fun Hx => GX.NoTab H1 Hx ∧ GX.TQ Ms Xs Hx) ⟨n2, t2⟩ (fun _ _ => True.intro) (fun i x Hx Hx' R2 Kn hi iv hy kr => ?_) (fun Hx bb iv hb => ?_)⟩
      · obtain ⟨rfl, rfl⟩ := hy
        have e0 : (0 + (i : Int)).toNat = i := by omega
        have hi' : i < ap.length := by omega
        obtain ⟨li, mi, g1, g2, _⟩ := told i hi'
        refine ⟨rfl, _, rfl, _, rfl, by omega, by omega, ?_⟩
        rw [e0]
        refine kr _ _ _ ⟨_, _, walk_range, fun _ _ => True.intro, iv, fun j y H5 H6 Kt Kn2 hj iv5 hy5 kt => ?_⟩
        obtain ⟨rfl, rfl⟩ := hy5
        obtain ⟨lj, mj, k1, k2, _⟩ := told j (by omega)
        have ej : (0 : Int) + (j : Nat) = ((j : Nat) : Int) := by omega
        have ei : (0 : Int) + (i : Nat) = ((i : Nat) : Int) := by omega
        have eL5 := iv5.1.lst eL
        have lsj : PrA K H6 mj lj := by
          obtain ⟨m, f1, f2⟩ := hLR.2 j lj k1
          rw [k2] at f1; cases f1
          obtain ⟨ws, e1, e2⟩ := f2
          exact ⟨ws, Sq.list (iv5.1.lst e1), e2.1, fun i r er => let ⟨x, h1, h2⟩ := e2.2 i r er; ⟨x, h1, iv5.1.tup h2⟩⟩
        have lsi : PrA K H6 mi li := by
          obtain ⟨m, f1, f2⟩ := hLR.2 i li g1
          rw [g2] at f1; cases f1
          obtain ⟨ws, e1, e2⟩ := f2
          exact ⟨ws, Sq.list (iv5.1.lst e1), e2.1, fun i r er => let ⟨x, h1, h2⟩ := e2.2 i r er; ⟨x, h1, iv5.1.tup h2⟩⟩
        obtain ⟨lo1, r1⟩ := hris j lj k1
        obtain ⟨lo2, r2⟩ := hris i li g1
        have z1 := hsz lj (List.mem_of_getElem? k1)
        have z2 := hsz li (List.mem_of_getElem? g1)
        refine ⟨rfl, _, rfl, _, rfl, L, us, _, .ref mj, rfl, rfl, SqL.of eL5, by rw [ej]; exact atI_nat k2, _, rfl, _, rfl, L, us, _, .ref mi, rfl, rfl, SqL.of eL5, by rw [ei]; exact atI_nat g2, mj, mi, lj, li, rfl, lsj, lsi, ⟨lo1, r1⟩, ⟨lo2, r2⟩, by omega, fun l qs H7 nl hl7 ht7 _ s7 => ?_⟩
        refine ⟨Nat.zero_le _, fun E0' nE => ?_⟩
        have sE := same_upd (o := .lst []) nE
        refine ⟨_, .list [], (hl7.same sE).dp, .lst (SqL.of upd_same) .nil, shaped_prs qs, by rfl, ?_⟩
        rw [eqv_none]
        have eq : qs = bothF (ls.getD j []) (ls.getD i []) := by
          rw [List.getD_eq_getElem?_getD, List.getD_eq_getElem?_getD, k1, g1]
          exact Told.one ht7 ⟨⟨lo1, bothF_ris r1 r2 (.inl (Int.le_refl _))⟩, fun n => bothF_in r1 r2⟩ fun _ => Iff.rfl
        rw [eq]
        exact kt _ ⟨iv5.1.trans (NoTab.same (s7.trans sE)), iv5.2.same (s7.trans sE)⟩
      · refine q Hx bb ((NoTab.same s1).trans iv.1) iv.2 (hb.trans ⟨fun h i j p q' rp rq hij ep eq er1 er2 => ?_, fun h i j hi hj => ?_⟩)
        · have hi : i < ap.length := (List.getElem?_eq_some_iff.mp ep).1
          obtain ⟨li, _, g1, _⟩ := told i hi
          obtain ⟨lj, _, k1, _⟩ := told j (by omega)
          have hb := h i j (by omega) hij
          rw [List.getD_eq_getElem?_getD, List.getD_eq_getElem?_getD, k1, g1, List.isEmpty_iff] at hb
          obtain ⟨lo1, r1⟩ := hris j lj k1
          obtain ⟨lo2, r2⟩ := hris i li g1
          intro n hn
          have m1 := ((htold j rq lj (ers' j q' rq eq er2) k1).same n).mpr ⟨hn.1.1, hn.2⟩
          have m2 := ((htold i rp li (ers' i p rp ep er1) g1).same n).mpr ⟨hn.1.2, hn.2⟩
          have := (bothF_in (n := n) r1 r2).mpr ⟨m1, m2⟩
          have hb : bothF lj li = [] := hb
          rw [hb] at this
          exact inS_nil this
        · have hi' : i < ap.length := by omega
          obtain ⟨li, _, g1, _⟩ := told i hi'
          obtain ⟨lj, _, k1, _⟩ := told j (by omega)
          obtain ⟨lo1, r1⟩ := hris j lj k1
          obtain ⟨lo2, r2⟩ := hris i li g1
          have ep : ap[i]? = some ap[i] := List.getElem?_eq_getElem hi'
          have eq : ap[j]? = some (ap[j]'(by omega)) := List.getElem?_eq_getElem _
          have b1 := hrng _ (List.mem_of_getElem? ep)
          have b2 := hrng _ (List.mem_of_getElem? eq)
          have er1 : rs[(ap[i]).toNat]? = some (rs[(ap[i]).toNat]'(by omega)) := List.getElem?_eq_getElem _
          have er2 : rs[(ap[j]'(by omega)).toNat]? = some (rs[(ap[j]'(by omega)).toNat]'(by omega)) := List.getElem?_eq_getElem _
          have far := h i j _ _ _ _ hj ep eq er1 er2
          rw [List.getD_eq_getElem?_getD, List.getD_eq_getElem?_getD, k1, g1]
          show (bothF lj li).isEmpty = true
          rw [List.isEmpty_iff]
          refine (told_nil (pr := fun n => InS lj n ∧ InS li n) ⟨⟨lo1, bothF_ris r1 r2 (.inl (Int.le_refl _))⟩, fun n => bothF_in r1 r2⟩).mpr fun n hn => far n ?_
          have m1 := ((htold j _ lj (ers' j _ _ eq er2) k1).same n).mp hn.1
          have m2 := ((htold i _ li (ers' i _ _ ep er1) g1).same n).mp hn.2
          exact ⟨⟨m1.1, m2.1⟩, m1.2⟩
theorem ok_SBlind {f : Addr} {fd : FuncData} (F : Fun K "shows_blind" "shows_blind" sSBlind f fd) (C_is_tuple_of : Cal P w K mg base 1 "is_tuple_of" ["thing", "many"] spTupOf) (C_is_number : Cal P w K mg base 1 "is_number" ["thing"] spIsNum) (C_without : Cal P w K mg base 3 "without" ["one", "other"] (spWithout K)) : FnOk P w K mg base CX0 4 f fd ["runs", "gone", "told"] (spSBlind K) := by
  refine F.ok scSBlind (fun vs H Q E h => ?_) (fun cdv A outer s H vs Q E hr h => ?_)
  · obtain ⟨a, b, t, rs, gs, ts, rfl, _⟩ := h
    rfl
  · obtain ⟨a, b, t, rs, gs, ts, rfl, hA, hB, eT0, hra, hgb, hro, hrg, hq⟩ := h
    refine ⟨_, pss_cons (ps_if (PW.pt (pw_or (pt_not (pt_val (pe_own C_is_tuple_of (hr.mono (show 1 ≤ 3 by decide)) (by rfl) (pa_cons (pv 2) (pa_cons pe_int pa_nil))))) (pw_or (pt_cmpR op_ne (pe_ix ix_tup (pv 2) pe_int (fun _ _ => rfl)) pe_str (nomark _)) (pw_or1 (pt_not (pt_val (pe_own C_is_number (hr.mono (show 1 ≤ 3 by decide)) (by rfl) (pa_cons (pe_ix ix_tup (pv 2) pe_int (fun _ _ => rfl)) pa_nil)))))))) (pss_one (ps_ret pe_bl))
        pss_nil)
      (pss_cons (ps_setLc (i := 3) (own := [("run", 4)]) (g := (gName 4)) (tt := tYes) (te := (tCall (spWithout K) [] E0 (tCons (tLst (tCons (tVar 4) tNil)) (tCons (tVar 1) tNil)))) rfl scSBlind.nd rfl rfl (sw_true rfl rfl rfl (by decide +kernel)) (pi_seq (pv 0)) (blkOk_by (own := [("run", 4)]) (N := ["runs", "gone", "told", "left", "run"]) (sc := defScope sSBlind) (by decide +kernel)) (fun _ _ _ _ _ => (pg_name (i := 4) scSBlind.nd rfl (.inl rfl))) (fun _ _ _ _ _ => pts_nil) (fun _ _ _ _ _ => (pe_own C_without hr (by rfl) (pa_cons (pe_lst (pa_cons (pv 4) pa_nil)) (pa_cons (pv 1) pa_nil)))))
      (pss_one (ps_ret (pe_and (pe_cmpR (op_inD (u65 hr)) (pe_lst pa_nil) (pv 3) (by rfl)) (pe_one (pe_cmpR op_eq (pe_ix ix_tup (pv 2) pe_int (fun _ _ => rfl)) (pe_bm PySem.F.plainAttrs_list PySem.F.slot_list_index PySem.F.type_list_index (mt_indexD (u65 hr)) (pv 3) (pa_cons (pe_lst pa_nil) pa_nil)) (nomark _))))))), ?_⟩
    obtain ⟨ua, ea, pa⟩ := id hA
    have hlen : ua.length = rs.length := pa.1
    rcases hq with ⟨hl, q⟩ | ⟨i0, r0, rfl, er0, hg0, hf0, q⟩
    · refine ⟨_, rfl, t, ts, 2, rfl, eT0, ?_⟩
      rw [decide_eq_false (by omega : ¬ ((ts.length : Int) = 2))]
      exact ⟨_, rfl, iteT q⟩
    refine ⟨_, rfl, t, _, 2, rfl, eT0, _, rfl, ite2 (fun z => nomatch z) (fun _ => ?_)⟩
    refine ⟨_, rfl, t, _, 0, _, rfl, rfl, .inl (.inl eT0), atI_nat (j := 0) rfl, rfl, _, rfl, ite2 (fun z => by simp at z) (fun _ => ?_)⟩
    refine ⟨_, rfl, t, _, 1, _, rfl, rfl, .inl (.inl eT0), atI_nat (j := 1) rfl, _, rfl, by omega, _, rfl, ite2 (fun z => nomatch z) (fun _ => ?_)⟩
    refine ⟨_, rfl, a, rfl, iseq_lc ea fun J G wk hG L nL => lc_it wk (fun j H' => Same H H' ∧ ∃ us ls, H' L = some (.lst us) ∧ LR H' us ls ∧ ls.length = j ∧ (∀ v ∈ us, v ≠ .ref L) ∧ (∀ (i : Nat) r l, rs[i]? = some r → ls[i]? = some l → Told (fun n => (r.1 ≤ n ∧ n ≤ r.2) ∧ ¬ InS gs n) l) ∧ ∀ l ∈ ls, l.length ≤ gs.length + 2) ⟨same_upd nL, [], [], upd_same, LR.nil, rfl, (fun _ h => nomatch h), (fun i r l _ e => by simp at e), fun _ h => nomatch h⟩ (fun j H' _ hP => hG H' (NoTab.same hP.1)) (fun j x H'' H' hi hP hy => ?_) (fun H1 hP => ?_)⟩
    · obtain ⟨rfl, hx⟩ := hy
      obtain ⟨sm, us, ls, eL, hLR, hlj, hng, htold, hsz⟩ := hP
      obtain ⟨r, T, er, rfl, eT⟩ := prs_at pa hx
      have hrr := hro r (List.mem_of_getElem? er)
      have hj : j < rs.length := (List.getElem?_eq_some_iff.mp er).1
      refine ⟨rfl, _, rfl, (by show 1 ≤ sizeLine; decide), fun l1 nl1 => ?_⟩
      have sl1 := same_upd (o := .lst [.ref T]) nl1
      have p1 : LsA (upd H' l1 (.lst [.ref T])) l1 [r] := ⟨_, upd_same, Prs.nil.snoc (sl1 _ _ (sm _ _ eT))⟩
      refine ⟨_, rfl, l1, b, [r], gs, rfl, p1.pr, (hB.same (sm.trans sl1)).pr, ⟨r.1, Int.le_refl _, hrr, True.intro⟩, ⟨0, hrg⟩, by show 1 + gs.length ≤ 800; omega, fun l2 l H4 nl2 hl2 htl hzl s4 => ?_⟩
      have eL4 := s4 _ _ (sl1 _ _ eL)
      have n2L : l2 ≠ L := fun z => by rw [z, sl1 _ _ eL] at nl2; cases nl2
      have lus : us.length = j := by rw [hLR.1, hlj]
      refine ⟨_, eL4, small1000 (by omega), fun b' o e => ?_, us ++ [.ref l2], ls ++ [l], upd_same, ?_, by rw [List.length_append, hlj]; rfl, fun v hv => ?_, (fun i r' l' er' el' => ?_), fun l' hl' => ?_⟩
      · rw [upd_ne (ne_of_none e nL)]
        exact s4 _ _ (sl1 _ _ (sm b' o e))
      · have h1 := (hLR.same (sl1.trans s4)).snoc hl2
        refine ⟨h1.1, fun i r' e => ?_⟩
        obtain ⟨x, f1, us', f2, f3⟩ := h1.2 i r' e
        have nx : x ≠ L := fun z => by
          have hm := List.mem_of_getElem? f1
          rcases List.mem_append.mp hm with y | y
          · exact hng _ y (by rw [z])
          · exact n2L ((V.ref.inj (List.mem_singleton.mp y)).symm.trans z)
        exact ⟨x, f1, us', by rw [upd_ne nx]; exact f2, f3.upd_lst eL4⟩
      · rcases List.mem_append.mp hv with z | z
        · exact hng v z
        · rw [List.mem_singleton.mp z]
          exact fun w => n2L (V.ref.inj w)
      · by_cases hi : i < ls.length
        · rw [List.getElem?_append_left hi] at el'
          exact htold i r' l' er' el'
        · rw [List.getElem?_append_right (by omega)] at el'
          have h0 : i - ls.length < 1 := (List.getElem?_eq_some_iff.mp el').1
          obtain rfl : i = ls.length := by omega
          rw [Nat.sub_self] at el'
          cases el'
          rw [hlj, er] at er'
          cases er'
          refine htl.cong fun n => ?_
          rw [inS_cons]
          exact ⟨fun ⟨z, y⟩ => ⟨z.elim id (fun w => absurd w inS_nil), y⟩, fun ⟨z, y⟩ => ⟨.inl z, y⟩⟩
      · rcases List.mem_append.mp hl' with z | z
        · exact hsz l' z
        · rw [List.mem_singleton.mp z]
          have : [r].length = 1 := rfl
          omega
    · obtain ⟨s1, us, ls, eL, hLR, hlj, hng, htold, hsz⟩ := hP
      rw [hlen] at hlj
      have emp : ∀ (i : Nat) r l, rs[i]? = some r → ls[i]? = some l → (l.isEmpty = true ↔ allGB gs r = true) := fun i r l er el => by
        rw [List.isEmpty_iff, told_nil (htold i r l er el), allGB_iff]
        refine ⟨fun h n h1 h2 => ?_, fun h n ⟨⟨h1, h2⟩, h3⟩ => h3 (h n h1 h2)⟩
        exact Classical.byContradiction fun z => h n ⟨⟨h1, h2⟩, z⟩
      refine ⟨Nat.zero_le _, fun E0' nE => ?_⟩
      have sE := same_upd (o := .lst []) nE
      have dpL : ∀ {H' : Hp}, Same H1 H' → Dp K H' (.ref L) (.list (ls.map setD')) := fun s' => .lst (SqL.of (s' _ _ eL)) (dp_sets (hLR.same s'))
      refine ⟨_, rfl, .list [], ls.map setD', .lst (SqL.of upd_same) .nil, dpL sE, by rfl, shaped_sets ls, ?_⟩
      have ea' : ((ls.map setD').any fun z => PyData.eqv z (.list [])) = ls.any List.isEmpty := by
        rw [List.any_map]
        congr 1
        funext l
        exact eqv_set l
      rw [ea']
      have il : i0 < rs.length := (List.getElem?_eq_some_iff.mp er0).1
      have jl : i0 < ls.length := by omega
      have je : ls[i0].isEmpty = true := (emp i0 _ _ er0 (List.getElem?_eq_getElem jl)).mpr hg0
      rw [show ls.any List.isEmpty = true from List.any_eq_true.mpr ⟨_, List.getElem_mem jl, je⟩]
      have eT1 := (s1.trans sE) _ _ eT0
      refine ⟨_, rfl, iteT ⟨_, rfl, t, _, 1, _, rfl, rfl, .inl (.inl eT1), atI_nat (j := 1) rfl, ?_⟩⟩
      refine ⟨_, rfl, .inl ⟨rfl, _, SqL.of (sE _ _ eL)⟩, Nat.zero_le _, fun E1 nE1 => ?_⟩
      have sE1 := same_upd (o := .lst []) nE1
      refine ⟨L, .ref E1, .list [], ls.map setD', i0, setD' ls[i0], rfl, rfl, dpL (sE.trans sE1), .lst (SqL.of upd_same) .nil, shaped_sets ls, by rfl, by rw [List.getElem?_map, List.getElem?_eq_getElem jl]; rfl, by rw [eqv_set]; exact je, fun m z hm hz => ?_, rfl, ?_⟩
      · rw [List.getElem?_map] at hz
        cases hl : ls[m]? with
        | none => rw [hl] at hz; cases hz
        | some l =>
          rw [hl] at hz
          cases hz
          rw [eqv_set]
          have ml : m < rs.length := by omega
          have h1 := hf0 m _ hm (List.getElem?_eq_getElem ml)
          have h2 := emp m _ _ (List.getElem?_eq_getElem ml) hl
          rw [h1] at h2
          cases c : l.isEmpty with
          | false => rfl
          | true => exact absurd (h2.mp c) Bool.false_ne_true
      · rw [decide_eq_true rfl]
        exact q _ ((s1.trans sE).trans sE1)
end
/-- what is told of samples, as it stands -/
def ToldS (H : Hp) (t : Addr) (rs gs : List (Int × Int)) : Prop := (∃ (i : Nat) (r : Int × Int), H t = some (.tup [.str "blind", .int (i : Int)]) ∧ rs[i]? = some r ∧ allGB gs r = true ∧ ∀ (j : Nat) r', j < i → rs[j]? = some r' → allGB gs r' = false) ∨
  ∃ (N A : Addr) (ns ap : List Int), H t = some (.tup [.str "samples", .ref N, .ref A]) ∧ IntsQ H N ns ∧ IntsQ H A ap ∧ SampT rs gs ns ap ∧ (∀ e ∈ ns, 0 ≤ e) ∧ ap.length ≤ 700
structure PsS (Ms : GX.Mq) (Pn Pr Pb Pe Pa Pi Pf : Addr) : Prop where
  n : Pn ∈ Ms
  r : Pr ∈ Ms
  b : Pb ∈ Ms
  e : Pe ∈ Ms
  a : Pa ∈ Ms
  i : Pi ∈ Ms
  f : Pf ∈ Ms
def spSFew (K : PySem.W.Frag) (Ms : GX.Mq) (Xs : List Addr) (Pn Pr Pb Pe Pa Pi Pf : Addr) : Sp := fun vs H Q _ => ∃ (a b t N A : Addr) (rs gs : List (Int × Int)) (ns ap : List Int), vs = [.ref a, .ref b, .ref t] ∧ LsQ H a rs ∧ LsQ H b gs ∧ rs.length ≤ 700 ∧ gs.length ≤ 100 ∧ (∀ r ∈ rs, r.1 ≤ r.2) ∧ Ris 0 gs ∧ H t = some (.tup [.str "samples", .ref N, .ref A]) ∧ IntsQ H N ns ∧ IntsQ H A ap ∧ SampT rs gs ns ap ∧ (∀ e ∈ ns, 0 ≤ e) ∧ ap.length ≤ 700 ∧ GX.TQ Ms Xs H ∧ PsS Ms Pn Pr Pb Pe Pa Pi Pf ∧
  ∀ H2, GX.NoTab H H2 → GX.TQ Ms Xs H2 → Q (.bl true) H2
def spShows (K : PySem.W.Frag) (Ms : GX.Mq) (Xs : List Addr) (Pn Pr Pb Pe Pa Pi Pf : Addr) : Sp := fun vs H Q _ => ∃ (a b t : Addr) (rs gs : List (Int × Int)), vs = [.ref a, .ref b, .ref t] ∧ LsQ H a rs ∧ LsQ H b gs ∧ rs.length ≤ 700 ∧ gs.length ≤ 100 ∧ (∀ r ∈ rs, r.1 ≤ r.2) ∧ Ris 0 gs ∧ ToldS H t rs gs ∧ GX.TQ Ms Xs H ∧ PsS Ms Pn Pr Pb Pe Pa Pi Pf ∧
  ∀ H2, GX.NoTab H H2 → GX.TQ Ms Xs H2 → Q (.bl true) H2
abbrev sSFew : Stmt := topS 19
theorem scSFew : FnScope ["runs", "gone", "told", "numbers", "apart", "number"] ["runs", "gone", "told"] (defScope sSFew) := ⟨rfl, rfl, rfl, by decide +kernel, rfl, by decide +kernel, by decide +kernel⟩
abbrev sShows : Stmt := topS 20
theorem scShows : FnScope ["runs", "gone", "told"] ["runs", "gone", "told"] (defScope sShows) := ⟨rfl, rfl, rfl, by decide +kernel, rfl, by decide +kernel, by decide +kernel⟩
section
variable {K : PySem.W.Frag} {mg : Str → Option Value} {P : Program} {w : World} {base : Heap} {Pn Pr Pb Pe Pa Pi Pf : Addr}
theorem ok_SFew {Ms : GX.Mq} {Xs : List Addr} {f c Pf : Addr} {oc kV doc pm ct : Value} {od an : Option Addr} {osl : Array (Option Value)} (lk : K.lookup f = some ⟨oc, od, .func (PySem.W.fnOf "shows_fewest" "shows_fewest" (defArgs sSFew) (defBody sSFew) (defScope sSFew) .none kV doc pm an (.ref c) ct), osl⟩) (hcd : PySem.W.codeIn K (.ref c) "shows_fewest" = true) (TG : GxR.TabB base mg c Pf) (C_is_tuple_of : Cal P w K mg base 1 "is_tuple_of" ["thing", "many"] spTupOf) (C_are_rising : Cal P w K mg base 6 "are_rising" ["thing"] (spRising K Ms Xs Pn Pr)) (C_are_rising_below : Cal P w K mg base 7 "are_rising_below" ["thing", "many"] (spBelow K Ms Xs Pn Pr Pb)) (C_is_in : Cal P w K mg base 4 "is_in" ["some", "number"] (spIsIn K Ms Xs Pi)) (C_each_has_one : Cal P w K mg base 8 "each_has_one" ["runs", "numbers"] (spEach K Ms Xs Pe)) (C_are_apart : Cal P w K mg base 5 "are_apart" ["runs", "gone", "apart"] (spApart K Ms Xs Pa)) (m_len : mg "len" = none) (m_any : mg "any" = none) : FnOk P w K mg base CX0 9 f (PySem.W.fnOf "shows_fewest" "shows_fewest" (defArgs sSFew) (defBody sSFew) (defScope sSFew) .none kV doc pm an (.ref c) ct) ["runs", "gone", "told"] (spSFew K Ms Xs Pn Pr Pb Pe Pa Pi Pf) := by
  refine fn_of lk hcd scSFew (fun vs H Q E h => ?_) (fun A outer s H vs Q E hr h => ?_)
  · obtain ⟨a, b, t, N, A, rs, gs, ns, ap, rfl, _⟩ := h
    rfl
  · obtain ⟨a, b, t, N, A, rs, gs, ns, ap, rfl, hA, hB, hra, hgb, hro, hrg, eT, hN, hP, hok, hnn, hap, hT, hM, q⟩ := h
    refine ⟨_, PSs.nox (pss_cons (ps_if (PW.pt (pw_or (pt_not (pt_val (pe_own C_is_tuple_of (hr.mono (show 1 ≤ 8 by decide)) (by rfl) (pa_cons (pv 2) (pa_cons pe_int pa_nil))))) (pw_or1 (pt_cmpR op_ne (pe_ix ix_tup (pv 2) pe_int (fun _ _ => rfl)) pe_str (nomark _))))) (pss_one (ps_ret pe_bl))
        pss_nil)
      (pss_cons (ps_par rfl scSFew.nd (i := 3) (j := 4) rfl rfl (by decide) rfl rfl (pa_cons (pe_ix ix_tup (pv 2) pe_int (fun _ _ => rfl)) (pa_cons (pe_ix ix_tup (pv 2) pe_int (fun _ _ => rfl)) pa_nil)) (by rfl))
      (pss_cons (ps_if (PW.pt (pw_or (pt_not (pt_val (pe_own C_are_rising (hr.mono (show 6 ≤ 8 by decide)) (by rfl) (pa_cons (pv 3) pa_nil)))) (pw_or (pt_not (pt_val (pe_own C_are_rising_below (hr.mono (show 7 ≤ 8 by decide)) (by rfl) (pa_cons (pv 4) (pa_cons (pe_callB call_len_seq (by rfl) m_len PySem.boot_len (pa_cons (pv 0) pa_nil)) pa_nil))))) (pw_or1 (pt_cmpR op_ne (pe_callB call_len_seq (by rfl) m_len PySem.boot_len (pa_cons (pv 3) pa_nil)) (pe_callB call_len_seq (by rfl) m_len PySem.boot_len (pa_cons (pv 4) pa_nil)) (nomark _)))))) (pss_one (ps_ret pe_bl))
        pss_nil)
      (pss_cons (ps_if (PW.pt (pw_or (pt_val (GX.pe_anyX (k := 5) (own := [("number", 5)]) (te := fun code1 => (tCall (spIsIn K Ms Xs Pi) [] E0 (tCons (tVar 1) (tCons (tVar 5) tNil)))) (g' := (gName 5)) (tt := tYes) hr scSFew.nd (by rfl) m_any TG.bm (pi_seq (pv 3)) (GX.pc_own (Ms := Ms) (Xs := Xs) TG rfl) (GX.gok_by (own := [("number", 5)]) (N := ["runs", "gone", "told", "numbers", "apart", "number"]) (sc := defScope sSFew) (by decide +kernel)) (fun _ _ _ _ _ r1 gd1 => (pg_name (i := 5) scSFew.nd rfl (.inl rfl))) (fun _ _ _ _ _ r1 gd1 => pts_nil) (fun _ _ _ code1 _ r1 gd1 => (pe_own C_is_in (r1.mono (show 4 ≤ 5 by decide)) (by rfl) (pa_cons (pv 1) (pa_cons (pv 5) pa_nil)))))) (pw_or1 (pt_not (pt_val (pe_own C_each_has_one hr (by rfl) (pa_cons (pv 0) (pa_cons (pv 3) pa_nil)))))))) (pss_one (ps_ret pe_bl))
        pss_nil)
      (pss_one (ps_ret (pe_own C_are_apart (hr.mono (show 5 ≤ 8 by decide)) (by rfl) (pa_cons (pv 0) (pa_cons (pv 1) (pa_cons (pv 4) pa_nil)))))))))), ?_⟩
    obtain ⟨us, eA, pr⟩ := id hA
    have lus : us.length = rs.length := pr.1
    refine ⟨_, rfl, t, _, 3, rfl, eT, _, rfl, ite2 (fun z => nomatch z) (fun _ => ?_)⟩
    refine ⟨_, rfl, t, _, 0, _, rfl, rfl, .inl (.inl eT), atI_nat (j := 0) rfl, rfl, _, rfl, ite2 (fun z => by simp at z) (fun _ => ?_)⟩
    refine ⟨_, rfl, t, _, 1, _, rfl, rfl, .inl (.inl eT), atI_nat (j := 1) rfl, _, rfl, t, _, 2, _, rfl, rfl, .inl (.inl eT), atI_nat (j := 2) rfl, _, _, rfl, ?_⟩
    refine ⟨_, rfl, N, ns, rfl, hN, hnn, hok.inc, hT, hM.n, hM.r, fun H1 n1 t1 => ⟨_, rfl, ite2 (fun z => nomatch z) (fun _ => ?_)⟩⟩
    refine ⟨_, rfl, _, rfl, a, us, rfl, (eA.noTab n1).lq, A, ap, _, rfl, hP.noTab n1, fun x hx => by rw [lus]; exact hok.arng x hx, hok.ainc, t1, hM.n, hM.r, hM.b, fun H2 n2 t2 => ⟨_, rfl, ite2 (fun z => nomatch z) (fun _ => ?_)⟩⟩
    have n12 := n1.trans n2
    refine ⟨_, rfl, N, _, rfl, (hN.noTab n12).lq, _, rfl, A, _, rfl, (hP.noTab n12).lq, rfl, _, rfl, ite2 (fun z => ?_) (fun _ => ?_)⟩
    · rw [List.length_map, List.length_map, hok.len] at z
      simp at z
    have lns : (ns.map V.int).length = ns.length := List.length_map ..
    refine ⟨_, rfl, N, rfl, iseq_gx (hN.noTab n12) fun J G wk hG => ⟨t2, hM.f, fun H3 c' P' n3 t3 nX eC tG => GX.turns_any wk (fun _ => false) (fun Hx => GX.NoTab H2 Hx ∧ GX.TQ Ms Xs Hx) ⟨n3, t3⟩ (fun Hx iv => hG Hx iv.1) (fun i x Hx Hx' Kt Kn hi iv hy kt _ => ?_) (fun H4 bb iv hb => ?_)⟩⟩
    · obtain ⟨rfl, hx⟩ := hy
      rw [List.getElem?_map] at hx
      obtain ⟨e, ee, rfl⟩ := Option.map_eq_some_iff.mp hx
      have hf := (hok.free e (List.mem_of_getElem? ee)).1
      refine ⟨rfl, _, rfl, _, rfl, b, gs, e, rfl, hB.noTab (n12.trans iv.1), iv.2, hM.i, fun H5 n5 t5 => ?_⟩
      have eg : goneB gs e = false := by
        cases c : goneB gs e with
        | false => rfl
        | true => exact absurd (goneB_iff.mp c) hf
      rw [eg]
      exact kt _ ⟨iv.1.trans n5, t5⟩
    have n4 := n12.trans iv.1
    have eb : bb = false := by
      cases bb with
      | false => rfl
      | true =>
        obtain ⟨_, _, z⟩ := hb.mp rfl
        cases z
    rw [eb]
    refine ⟨_, rfl, ite2 (fun z => nomatch z) (fun _ => ?_)⟩
    refine ⟨_, rfl, _, rfl, a, N, rs, ns, rfl, hA.noTab n4, hN.noTab n4, fun r hr => hok.hit r hr, iv.2, hM.e, fun H5 n5 t5 => ⟨_, rfl, ite2 (fun z => nomatch z) (fun _ => ?_)⟩⟩
    have n05 := n4.trans n5
    refine ⟨_, rfl, _, rfl, _, rfl, a, b, A, rs, gs, ap, rfl, hA.noTab n05, hB.noTab n05, hP.noTab n05, hra, hgb, hap, hro, hrg, hok.arng, t5, hM.a, fun H6 bb n6 t6 hbb => ?_⟩
    have e1 : bb = true := hbb.mpr fun i j p q' rp rq hij ep eq er1 er2 n hn => by
      have lt : p ≠ q' := fun z => by
        have h1 := List.pairwise_iff_getElem.mp hok.ainc j i (List.getElem?_eq_some_iff.mp eq).1 (List.getElem?_eq_some_iff.mp ep).1 hij
        rw [(List.getElem?_eq_some_iff.mp eq).2, (List.getElem?_eq_some_iff.mp ep).2] at h1
        omega
      exact hok.far p (List.mem_of_getElem? ep) q' (List.mem_of_getElem? eq) lt rp rq er1 er2 n ⟨⟨hn.1.2, hn.1.1⟩, hn.2⟩
    rw [e1]
    exact q H6 (n05.trans n6) t6
theorem ok_Shows {f : Addr} {fd : FuncData} (F : Fun K "shows_samples" "shows_samples" sShows f fd) (C_shows_blind : Cal P w K mg base 4 "shows_blind" ["runs", "gone", "told"] (spSBlind K)) (C_shows_fewest : Cal P w K mg base 9 "shows_fewest" ["runs", "gone", "told"] (spSFew K Ms Xs Pn Pr Pb Pe Pa Pi Pf)) : FnOk P w K mg base CX0 10 f fd ["runs", "gone", "told"] (spShows K Ms Xs Pn Pr Pb Pe Pa Pi Pf) := by
  refine F.ok scShows (fun vs H Q E h => ?_) (fun cdv A outer s H vs Q E hr h => ?_)
  · obtain ⟨a, b, t, rs, gs, rfl, _⟩ := h
    rfl
  · obtain ⟨a, b, t, rs, gs, rfl, hA, hB, hra, hgb, hro, hrg, ht, hT, hM, q⟩ := h
    refine ⟨_, pss_one (ps_ret (pe_or (pe_own C_shows_blind (hr.mono (show 4 ≤ 9 by decide)) (by rfl) (pa_cons (pv 0) (pa_cons (pv 1) (pa_cons (pv 2) pa_nil)))) (pe_one (pe_own C_shows_fewest hr (by rfl) (pa_cons (pv 0) (pa_cons (pv 1) (pa_cons (pv 2) pa_nil))))))), ?_⟩
    rcases ht with ⟨i, r, eT, er, hg, hf⟩ | ⟨N, A, ns, ap, eT, hN, hP, hok, hnn, hap⟩
    · exact ⟨_, rfl, _, rfl, _, rfl, a, b, t, rs, gs, _, rfl, hA, hB, eT, hra, hgb, hro, hrg, .inr ⟨i, r, rfl, er, hg, hf, fun H2 s2 => ⟨_, rfl, iteT (q H2 (NoTab.same s2) (hT.same s2))⟩⟩⟩
    · exact ⟨_, rfl, _, rfl, _, rfl, a, b, t, rs, gs, _, rfl, hA, hB, eT, hra, hgb, hro, hrg, .inl ⟨(fun z => nomatch z), ⟨_, rfl, iteF ⟨_, rfl, _, rfl, _, rfl, a, b, t, N, A, rs, gs, ns, ap, rfl, hA, hB, hra, hgb, hro, hrg, eT, hN, hP, hok, hnn, hap, hT, hM, q⟩⟩⟩⟩
end

/-! ### lists of whole numbers -/
def IntsA (H : Hp) (a : Addr) (ns : List Int) : Prop := H a = some (.lst (ns.map V.int))
theorem IntsA.at {ns : List Int} {i : Nat} {v : Int} (h : ns[i]? = some v) : atI (ns.map V.int) (i : Int) = some (.int v) := atI_nat (by rw [List.getElem?_map, h]; rfl)
theorem IntsA.q {H : Hp} {a : Addr} {ns : List Int} (h : IntsA H a ns) : IntsQ H a ns := .inl h
/-! ### what is left of a run, as the law finds it -/
def leftF (hi : Int) : Int → List (Int × Int) → List (Int × Int)
  | num, [] => if num ≤ hi then [(num, hi)] else []
  | num, g :: gs => if num ≤ g.2 ∧ g.1 ≤ hi then (if num < g.1 then [(num, g.1 - 1)] else []) ++ leftF hi (if g.2 + 1 > num then g.2 + 1 else num) gs else leftF hi num gs
theorem leftF_len (hi : Int) : ∀ (num : Int) (gs : List (Int × Int)), (leftF hi num gs).length ≤ gs.length + 1
  | num, [] => by unfold leftF; split <;> simp
  | num, g :: gs => by
    unfold leftF
    split
    · have := leftF_len hi (if g.2 + 1 > num then g.2 + 1 else num) gs
      rw [List.length_append, List.length_cons]
      split
      · simp only [List.length_cons, List.length_nil]; omega
      · simp only [List.length_nil]; omega
    · have := leftF_len hi num gs
      rw [List.length_cons]; omega
theorem leftF_ok (hi : Int) : ∀ (num : Int) (gs : List (Int × Int)), ∀ p ∈ leftF hi num gs, p.1 ≤ p.2
  | num, [] => fun p hp => by
    unfold leftF at hp
    split at hp
    · rw [List.mem_singleton.mp hp]; assumption
    · cases hp
  | num, g :: gs => fun p hp => by
    unfold leftF at hp
    split at hp
    · rcases List.mem_append.mp hp with z | z
      · split at z
        · rename_i c
          rw [List.mem_singleton.mp z]
          show num ≤ g.1 - 1
          omega
        · cases z
      · exact leftF_ok hi _ gs p z
    · exact leftF_ok hi _ gs p hp
theorem leftF_in {hi n : Int} : ∀ {gs : List (Int × Int)} {lo num : Int}, Ris lo gs → (InS (leftF hi num gs) n ↔ (num ≤ n ∧ n ≤ hi) ∧ ¬ InS gs n)
  | [], lo, num, _ => by
    unfold leftF
    split
    · rw [inS_cons]
      exact ⟨fun h => ⟨h.elim id fun z => absurd z inS_nil, inS_nil⟩, fun h => .inl h.1⟩
    · exact ⟨fun h => absurd h inS_nil, fun h => by omega⟩
  | g :: gs, lo, num, h => by
    have ih := fun m => leftF_in (hi := hi) (n := n) (gs := gs) (num := m) h.2.2
    have tl : InS gs n → g.2 + 2 ≤ n := fun z => h.2.2.low z
    have g12 := h.2.1
    unfold leftF
    split
    · rename_i c
      rw [inS_append, ih, inS_cons]
      have e1 : InS (if num < g.1 then [(num, g.1 - 1)] else []) n ↔ num ≤ n ∧ n < g.1 := by
        split
        · rw [inS_cons]
          refine ⟨fun z => z.elim (fun y => ?_) fun y => absurd y inS_nil, fun z => .inl ?_⟩
          · have y1 : num ≤ n := y.1
            have y2 : n ≤ g.1 - 1 := y.2
            omega
          · exact ⟨z.1, by show n ≤ g.1 - 1; omega⟩
        · exact ⟨fun z => absurd z inS_nil, fun z => by omega⟩
      rw [e1]
      constructor
      · rintro (⟨z1, z2⟩ | ⟨⟨z1, z2⟩, z3⟩)
        · refine ⟨⟨z1, by omega⟩, fun y => y.elim (fun w => ?_) fun w => ?_⟩
          · have := w.1; omega
          · have := tl w; omega
        · have z4 : g.2 + 1 ≤ n ∧ num ≤ n := by
            split at z1 <;> omega
          exact ⟨⟨z4.2, z2⟩, fun y => y.elim (fun w => by have := w.2; omega) z3⟩
      · rintro ⟨⟨z1, z2⟩, z3⟩
        by_cases c2 : n < g.1
        · exact .inl ⟨z1, c2⟩
        · refine .inr ⟨⟨?_, z2⟩, fun y => z3 (.inr y)⟩
          have : ¬ (g.1 ≤ n ∧ n ≤ g.2) := fun y => z3 (.inl y)
          split <;> omega
    · rename_i c
      rw [ih, inS_cons]
      constructor
      · rintro ⟨⟨z1, z2⟩, z3⟩
        exact ⟨⟨z1, z2⟩, fun y => y.elim (fun w => by have := w.1; have := w.2; omega) z3⟩
      · rintro ⟨z1, z3⟩
        exact ⟨z1, fun y => z3 (.inr y)⟩
/-- what is left of a run -/
abbrev leftR (gs : List (Int × Int)) (r : Int × Int) : List (Int × Int) := leftF r.2 r.1 gs
theorem leftR_nil {gs : List (Int × Int)} {r : Int × Int} {lo : Int} (h : Ris lo gs) : leftR gs r = [] ↔ allGB gs r = true := by
  rw [allGB_iff]
  constructor
  · intro e n h1 h2
    refine Classical.byContradiction fun z => ?_
    have := (leftF_in (hi := r.2) (n := n) (num := r.1) h).mpr ⟨⟨h1, h2⟩, z⟩
    rw [show leftF r.2 r.1 gs = [] from e] at this
    exact inS_nil this
  · intro hh
    cases e : leftR gs r with
    | nil => rfl
    | cons p t =>
      have hp : p ∈ leftR gs r := by rw [e]; exact List.mem_cons_self ..
      have h1 := leftF_ok r.2 r.1 gs p hp
      have h2 := (leftF_in (hi := r.2) (n := p.1) (num := r.1) h).mp ⟨p, hp, Int.le_refl _, h1⟩
      exact absurd (hh _ h2.1.1 h2.1.2) h2.2
/-- two sets have a number in both -/
def shareB (ps qs : List (Int × Int)) : Bool := ps.any fun p => qs.any fun q => decide (p.1 ≤ q.2) && decide (q.1 ≤ p.2)
theorem shareB_iff {ps qs : List (Int × Int)} (hp : ∀ p ∈ ps, p.1 ≤ p.2) (hq : ∀ q ∈ qs, q.1 ≤ q.2) : shareB ps qs = true ↔ ∃ n, InS ps n ∧ InS qs n := by
  unfold shareB
  rw [List.any_eq_true]
  constructor
  · rintro ⟨p, h1, h2⟩
    obtain ⟨q, h3, h4⟩ := List.any_eq_true.mp h2
    rw [Bool.and_eq_true, decide_eq_true_eq, decide_eq_true_eq] at h4
    have a1 := hp p h1
    have a2 := hq q h3
    by_cases c : p.1 ≤ q.1
    · exact ⟨q.1, ⟨p, h1, c, h4.2⟩, ⟨q, h3, Int.le_refl _, a2⟩⟩
    · exact ⟨p.1, ⟨p, h1, Int.le_refl _, a1⟩, ⟨q, h3, by omega, h4.1⟩⟩
  · rintro ⟨n, ⟨p, h1, h2, h3⟩, ⟨q, h4, h5, h6⟩⟩
    refine ⟨p, h1, List.any_eq_true.mpr ⟨q, h4, ?_⟩⟩
    rw [Bool.and_eq_true, decide_eq_true_eq, decide_eq_true_eq]
    omega
def spLLeft : Sp := fun vs H Q _ => ∃ (p b : Addr) (r : Int × Int) (gs : List (Int × Int)), vs = [.ref p, .ref b] ∧ H p = some (.tup [.int r.1, .int r.2]) ∧ LsA H b gs ∧ gs.length ≤ 100 ∧ ∀ l H', H l = none → LsA H' l (leftR gs r) → Same H H' → Q (.ref l) H'
def spShare : Sp := fun vs H Q _ => ∃ (a b : Addr) (ps qs : List (Int × Int)), vs = [.ref a, .ref b] ∧ LsA H a ps ∧ LsA H b qs ∧ qs.length ≤ 900 ∧ ∀ H', Same H H' → Q (.bl (shareB ps qs)) H'
def spLRis : Sp := fun vs H Q _ => ∃ (a : Addr) (ns : List Int), vs = [.ref a] ∧ IntsA H a ns ∧ ns.length ≤ 900 ∧ (∀ n ∈ ns, 0 ≤ n) ∧ ns.Pairwise (· < ·) ∧ ∀ H', Same H H' → Q (.bl true) H'
/-- as many of each number, and shifted -/
def movedF (m s : Int) (ps : List (Int × Int)) : List (Int × Int) := ps.map fun p => (p.1 * m + s, p.2 * m + m - 1 + s)
def spMoved : Sp := fun vs H Q _ => ∃ (a : Addr) (m s : Int) (ps : List (Int × Int)), vs = [.ref a, .int m, .int s] ∧ LsA H a ps ∧ ps.length ≤ 900 ∧ 0 ≤ m ∧ m < 2 ^ 200 ∧ 0 ≤ s ∧ s < 2 ^ 200 ∧ (∀ p ∈ ps, 0 ≤ p.1 ∧ p.1 < 2 ^ 200 ∧ 0 ≤ p.2 ∧ p.2 < 2 ^ 200) ∧ ∀ l H', H l = none → LsA H' l (movedF m s ps) → Same H H' → Q (.ref l) H'
abbrev sLLeft : Stmt := topS 28
theorem scLLeft : FnScope ["_law_span", "_law_gone_here", "_law_found", "_law_number", "_law_first", "_law_last"] ["_law_span", "_law_gone_here"] (defScope sLLeft) := ⟨rfl, rfl, rfl, by decide +kernel, rfl, by decide +kernel, by decide +kernel⟩
abbrev sShare : Stmt := topS 29
theorem scShare : FnScope ["_law_one", "_law_other", "_law_first", "_law_last", "_law_begin_here", "_law_end"] ["_law_one", "_law_other"] (defScope sShare) := ⟨rfl, rfl, rfl, by decide +kernel, rfl, by decide +kernel, by decide +kernel⟩
abbrev sLRis : Stmt := topS 31
theorem scLRis : FnScope ["_law_thing", "_law_one", "_law_other"] ["_law_thing"] (defScope sLRis) := ⟨rfl, rfl, rfl, by decide +kernel, rfl, by decide +kernel, by decide +kernel⟩
abbrev sMoved : Stmt := topS 27
theorem scMoved : FnScope ["_law_pairs", "_law_many_here", "_law_shift", "_law_first", "_law_last"] ["_law_pairs", "_law_many_here", "_law_shift"] (defScope sMoved) := ⟨rfl, rfl, rfl, by decide +kernel, rfl, by decide +kernel, by decide +kernel⟩
section
variable {K : PySem.W.Frag} {mg : Str → Option Value} {P : Program} {w : World} {base : Heap}
theorem ok_LLeft {f : Addr} {fd : FuncData} (F : Fun K "_law_left" "_law_left" sLLeft f fd) (m_max : mg "max" = none) (m_int : mg "int" = none) : FnOk P w K mg base CX0 1 f fd ["_law_span", "_law_gone_here"] spLLeft := by
  refine F.ok scLLeft (fun vs H Q E h => ?_) (fun cdv A outer s H vs Q E hr h => ?_)
  · obtain ⟨p, b, r, gs, rfl, _⟩ := h
    rfl
  · obtain ⟨p, b, r, gs, rfl, eP, hB, hgb, q⟩ := h
    refine ⟨_, pss_cons (ps_par rfl scLLeft.nd (i := 2) (j := 3) rfl rfl (by decide) rfl rfl (pa_cons (pe_lst pa_nil) (pa_cons (pe_ix ix_tup (pv 0) pe_int (fun _ _ => rfl)) pa_nil)) (by rfl))
      (pss_cons (ps_for PassesOwn.never rfl (pi_list (pv 1)) (pg_tup rfl (pgs_cons (pg_name (i := 4) scLLeft.nd rfl (.inl rfl)) (pgs_cons (pg_name (i := 5) scLLeft.nd rfl (.inl rfl)) pgs_nil)))
        (pss_one (ps_if (PW.pt (pw_and (pt_cmpR op_ge (pv 5) (pv 3) (nomark _)) (pw_and1 (pt_cmpR op_le (pv 4) (pe_ix ix_tup (pv 0) pe_int (fun _ _ => rfl)) (nomark _))))) (Evl.pss_cut (ps_if (pt_cmpR op_gt (pv 4) (pv 3) (nomark _)) (pss_one (ps_expr (pe_bm PySem.F.plainAttrs_list PySem.F.slot_list_append PySem.F.type_list_append mt_append (pv 2) (pa_cons (pe_tup (pa_cons (pv 3) (pa_cons (pe_op op_sub (pv 4) pe_int) pa_nil))) pa_nil))))
            pss_nil)
          (pss_one (ps_set (i := 3) scLLeft.nd rfl (.inl rfl) (pe_callB (call_max2 rfl) (by rfl) m_max (by decide +kernel) (pa_cons (pv 3) (pa_cons (pe_op op_add (pv 5) pe_int) pa_nil))))))
          pss_nil)))
      (pss_one (ps_ret (pe_op op_cat (pv 2) (pe_op op_rep (pe_lst (pa_cons (pe_tup (pa_cons (pv 3) (pa_cons (pe_ix ix_tup (pv 0) pe_int (fun _ _ => rfl)) pa_nil))) pa_nil)) (pe_callTy call_int1 (by rfl) m_int (by decide +kernel) (pa_cons (pe_cmpR op_le (pv 3) (pe_ix ix_tup (pv 0) pe_int (fun _ _ => rfl)) (nomark _)) pa_nil))))))), ?_⟩
    obtain ⟨us, eB, pr⟩ := id hB
    have lus : us.length = gs.length := pr.1
    refine ⟨Nat.zero_le _, fun F nF => ?_⟩
    have sF := same_upd (o := .lst []) nF
    refine ⟨_, rfl, p, _, 0, _, rfl, rfl, .inl (.inl (sF _ _ eP)), atI_nat (j := 0) rfl, _, _, rfl, ?_⟩
    refine ⟨_, rfl, b, rfl, ⟨_, SqL.of (sF _ _ eB)⟩, for_list (xs := us) (fun i σ Hx => ∃ (num : Int) (pre : List (Int × Int)) (y4 y5 : Option V), σ = [some (.ref p), some (.ref b), some (.ref F), some (.int num), y4, y5] ∧ LsA Hx F pre ∧ pre.length ≤ i ∧ pre ++ leftF r.2 num (gs.drop i) = leftR gs r ∧ Same H Hx) ⟨r.1, [], _, _, rfl, LsA.nil upd_same, Nat.le_refl _, rfl, sF⟩ (fun i σ Hx _ hP => ?_) (fun i x σ Hx hx hP => ?_) (fun σ Hx hP => ?_)⟩
    · obtain ⟨num, pre, y4, y5, rfl, hF, hl, he, sm⟩ := hP
      exact SqL.of (sm _ _ eB)
    · obtain ⟨num, pre, y4, y5, rfl, hF, hl, he, sm⟩ := hP
      obtain ⟨g, T, eg, rfl, eT⟩ := prs_at pr hx
      have hi : i < gs.length := (List.getElem?_eq_some_iff.mp eg).1
      rw [drop_at eg, leftF] at he
      have ePx := sm _ _ eP
      refine ⟨T, _, rfl, .inl (.inl (sm _ _ eT)), rfl, _, _, rfl, _, _, rfl, rfl, ?_⟩
      refine ⟨_, rfl, _, rfl, _, _, rfl, rfl, _, rfl, ite2 (fun c1 => ?_) (fun c1 => ?_)⟩
      · have c1' : num ≤ g.2 := of_decide_eq_true c1
        refine ⟨_, rfl, _, rfl, p, _, 1, _, rfl, rfl, .inl (.inl ePx), atI_nat (j := 1) rfl, _, _, rfl, rfl, _, rfl, ite2 (fun c2 => ?_) (fun c2 => ?_)⟩
        · have c2' : g.1 ≤ r.2 := of_decide_eq_true c2
          rw [if_pos ⟨c1', c2'⟩] at he
          refine ⟨fun σ' H' => ∃ pre', σ' = [some (.ref p), some (.ref b), some (.ref F), some (.int num), some (.int g.1), some (.int g.2)] ∧ LsA H' F pre' ∧ pre'.length ≤ i + 1 ∧ pre' ++ leftF r.2 (if g.2 + 1 > num then g.2 + 1 else num) (gs.drop (i + 1)) = leftR gs r ∧ Same H H', ?_, fun σ' H' hM => ?_⟩
          · refine ⟨_, rfl, _, rfl, _, _, rfl, rfl, _, rfl, ite2 (fun c3 => ?_) (fun c3 => ?_)⟩
            · have c3' : num < g.1 := of_decide_eq_true c3
              rw [if_pos c3', ← List.append_assoc] at he
              obtain ⟨ws, eF, hw⟩ := hF
              refine ⟨_, rfl, .inl ⟨rfl, _, SqL.of eF⟩, _, rfl, _, rfl, _, _, rfl, rfl, (by show 2 ≤ sizeLine; decide), fun T2 n2 => ?_⟩
              have sT := same_upd (o := .tup [.int num, .int (g.1 - 1)]) n2
              refine ⟨F, _, _, rfl, rfl, sT _ _ eF, small1000 (by have := hw.1; omega), ?_⟩
              refine ⟨pre ++ [(num, g.1 - 1)], rfl, ⟨_, upd_same, ((hw.same sT).snoc upd_same).upd_lst (sT _ _ eF)⟩, by rw [List.length_append]; exact Nat.add_le_add_right hl 1, he, fun b' o e => ?_⟩
              rw [upd_ne (ne_of_none e nF)]
              exact sT _ _ (sm b' o e)
            · have c3' : ¬ num < g.1 := fun z => c3 (decide_eq_true z)
              rw [if_neg c3', List.nil_append] at he
              exact ⟨pre, rfl, hF, by omega, he, sm⟩
          · obtain ⟨pre', rfl, hF', hl', he', sm'⟩ := hM
            exact ⟨_, rfl, _, rfl, _, _, rfl, rfl, _, _, rfl, _, pre', _, _, rfl, hF', hl', he', sm'⟩
        · have c2' : ¬ g.1 ≤ r.2 := fun z => c2 (decide_eq_true z)
          rw [if_neg (fun z => c2' z.2)] at he
          exact ⟨num, pre, _, _, rfl, hF, by omega, he, sm⟩
      · have c1' : ¬ num ≤ g.2 := fun z => c1 (decide_eq_true z)
        rw [if_neg (fun z => c1' z.1)] at he
        exact ite2 (fun z => nomatch z) (fun _ => ⟨num, pre, _, _, rfl, hF, by omega, he, sm⟩)
    · obtain ⟨num, pre, y4, y5, rfl, hF, hl, he, sm⟩ := hP
      rw [lus, List.drop_length, leftF] at he
      obtain ⟨ws, eF, hw⟩ := hF
      have lw : ws.length ≤ 100 := by have := hw.1; omega
      refine ⟨_, rfl, _, rfl, _, rfl, p, _, 1, _, rfl, rfl, .inl (.inl (sm _ _ eP)), atI_nat (j := 1) rfl, (by show 2 ≤ sizeLine; decide), fun T nT => ⟨(by show 1 ≤ sizeLine; decide), fun l1 n1 => ?_⟩⟩
      have sT := same_upd (o := .tup [.int num, .int r.2]) nT
      have s1 := same_upd (o := .lst [.ref T]) n1
      have s01 := (sm.trans sT).trans s1
      refine ⟨_, rfl, _, rfl, p, _, 1, _, rfl, rfl, .inl (.inl (s01 _ _ eP)), atI_nat (j := 1) rfl, num, r.2, rfl, rfl, .inr ⟨_, rfl, ?_⟩⟩
      by_cases c : num ≤ r.2
      · rw [decide_eq_true c]
        refine ⟨l1, 1, _, rfl, rfl, upd_same, by decide, by decide, (by show 1 * 1 ≤ sizeLine; decide), fun l2 n2 => ?_⟩
        have s2 := same_upd (o := .lst (List.replicate (1 : Int).toNat [V.ref T]).flatten) n2
        refine ⟨F, l2, _, _, rfl, rfl, s2 _ _ (s1 _ _ (sT _ _ eF)), upd_same, ?_, fun l3 n3 => ?_⟩
        · show ws.length + 1 ≤ sizeLine
          exact Nat.le_trans (by omega : _ ≤ 1000) (by decide)
        · have s3 := same_upd (o := .lst (ws ++ [V.ref T])) n3
          have s03 := (s01.trans s2).trans s3
          rw [if_pos c] at he
          refine q l3 _ ((s01.trans s2).free n3) ⟨_, upd_same, ?_⟩ s03
          rw [← he]
          exact (hw.same (((sT.trans s1).trans s2).trans s3)).snoc (s3 _ _ (s2 _ _ (s1 _ _ upd_same)))
      · rw [decide_eq_false c]
        refine ⟨l1, 0, _, rfl, rfl, upd_same, by decide, by decide, (by show 1 * 0 ≤ sizeLine; decide), fun l2 n2 => ?_⟩
        have s2 := same_upd (o := .lst (List.replicate (0 : Int).toNat [V.ref T]).flatten) n2
        refine ⟨F, l2, _, _, rfl, rfl, s2 _ _ (s1 _ _ (sT _ _ eF)), upd_same, ?_, fun l3 n3 => ?_⟩
        · show ws.length + 0 ≤ sizeLine
          exact Nat.le_trans (by omega : _ ≤ 1000) (by decide)
        · have s3 := same_upd (o := .lst (ws ++ [])) n3
          have s03 := (s01.trans s2).trans s3
          rw [if_neg c] at he
          refine q l3 _ ((s01.trans s2).free n3) ⟨_, upd_same, ?_⟩ s03
          rw [← he, List.append_nil]
          show Prs _ (ws ++ []) pre
          rw [List.append_nil]
          exact hw.same (((sT.trans s1).trans s2).trans s3)
theorem ok_Share {f : Addr} {fd : FuncData} (F : Fun K "_law_share" "_law_share" sShare f fd) (m_any : mg "any" = none) : FnOk P w K mg base CX0 1 f fd ["_law_one", "_law_other"] spShare := by
  refine F.ok scShare (fun vs H Q E h => ?_) (fun cdv A outer s H vs Q E hr h => ?_)
  · obtain ⟨a, b, ps, qs, rfl, _⟩ := h
    rfl
  · obtain ⟨a, b, ps, qs, rfl, hA, hB, hqz, q⟩ := h
    refine ⟨_, pss_cons (ps_for PassesOwn.never rfl (pi_list (pv 0)) (pg_tup rfl (pgs_cons (pg_name (i := 2) scShare.nd rfl (.inr rfl)) (pgs_cons (pg_name (i := 3) scShare.nd rfl (.inr rfl)) pgs_nil)))
        (pss_one (ps_if (pt_val (pe_callB (cr_any rfl) (by rfl) m_any (by decide +kernel) (pa_cons (pe_lc (own := [("_law_begin_here", 4), ("_law_end", 5)]) (g := (gTup K 2 (gCons (gName 4) (gCons (gName 5) gNil)))) (tt := tYes) (te := (tAndV (tOp (rI0 fun i j => .bl (decide (i ≤ j))) (tVar 2) (tVar 5)) (tOp (rI0 fun i j => .bl (decide (i ≤ j))) (tVar 4) (tVar 3)))) rfl scShare.nd (pi_list (pv 1)) (blkOk_by (own := [("_law_begin_here", 4), ("_law_end", 5)]) (N := ["_law_one", "_law_other", "_law_first", "_law_last", "_law_begin_here", "_law_end"]) (sc := defScope sShare) (by decide +kernel)) (fun _ _ _ _ _ => (pg_tup rfl (pgs_cons (pg_name (i := 4) scShare.nd rfl (.inl rfl)) (pgs_cons (pg_name (i := 5) scShare.nd rfl (.inl rfl)) pgs_nil)))) (fun _ _ _ _ _ => pts_nil) (fun _ _ _ _ _ => (pe_and (pe_cmpR op_le (pv 2) (pv 5) (nomark _)) (pe_one (pe_cmpR op_le (pv 4) (pv 3) (nomark _)))))) pa_nil))) (pss_one (ps_ret pe_bl))
          pss_nil)))
      (pss_one (ps_ret pe_bl)), ?_⟩
    obtain ⟨us, eA, pr⟩ := id hA
    obtain ⟨ws, eB, pw⟩ := id hB
    have lw : ws.length = qs.length := pw.1
    refine ⟨_, rfl, a, rfl, ⟨_, SqL.of eA⟩, for_list (xs := us) (fun i σ Hx => ∃ y2 y3 y4 y5 : Option V, σ = [some (.ref a), some (.ref b), y2, y3, y4, y5] ∧ Same H Hx ∧ shareB (ps.take i) qs = false) ⟨_, _, _, _, rfl, Same.refl _, by rw [List.take_zero]; rfl⟩ (fun i σ Hx _ hP => ?_) (fun i x σ Hx hx hP => ?_) (fun σ Hx hP => ?_)⟩
    · obtain ⟨y2, y3, y4, y5, rfl, sm, hf⟩ := hP
      exact SqL.of (sm _ _ eA)
    · obtain ⟨y2, y3, y4, y5, rfl, sm, hf⟩ := hP
      obtain ⟨p, T, ep, rfl, eT⟩ := prs_at pr hx
      have et : shareB (ps.take (i + 1)) qs = (qs.map fun q => decide (p.1 ≤ q.2) && decide (q.1 ≤ p.2)).any id := by
        rw [List.take_add_one, ep]
        unfold shareB at hf ⊢
        rw [List.any_append, hf, Bool.false_or, List.any_map]
        show (List.any [p] _) = _
        rw [List.any_cons, List.any_nil, Bool.or_false]
        rfl
      refine ⟨T, _, rfl, .inl (.inl (sm _ _ eT)), rfl, _, _, rfl, _, _, rfl, rfl, ?_⟩
      refine ⟨_, rfl, b, rfl, ⟨_, SqL.of (sm _ _ eB)⟩, fun G nG => lc_bs (bs := qs.map fun q => decide (p.1 ≤ q.2) && decide (q.1 ≤ p.2)) nG (sm _ _ eB) (by rw [List.length_map, lw]) (by omega) (fun j x bb H4 Kt Kn hx2 hb2 s4 k => ?_) (fun H5 s5 eG => ?_)⟩
      · obtain ⟨g, T2, eg, rfl, eT2⟩ := prs_at pw hx2
        rw [List.getElem?_map, eg] at hb2
        cases hb2
        have s04 := sm.trans s4
        refine ⟨T2, _, rfl, .inl (.inl (s04 _ _ eT2)), rfl, _, _, rfl, _, _, rfl, rfl, rfl, ?_⟩
        have this : Kt (V.bl (decide (p.1 ≤ g.2) && decide (g.1 ≤ p.2))) _ := k _ (Same.refl _)
        refine ⟨_, rfl, _, rfl, _, _, rfl, rfl, _, rfl, ite2 (fun c1 => ⟨_, rfl, _, rfl, _, _, rfl, rfl, ?_⟩) (fun c1 => ?_)⟩
        · rw [c1] at this
          exact this
        · rw [Bool.eq_false_iff.mpr c1] at this
          exact this
      · refine ⟨G, _, rfl, SqL.of eG, _, rfl, ?_⟩
        rw [← et]
        cases c : shareB (ps.take (i + 1)) qs with
        | false => exact ite2 (fun z => nomatch z) (fun _ => ⟨_, _, _, _, rfl, sm.trans s5, rfl⟩)
        | true =>
          refine iteT ?_
          have e : shareB ps qs = true := by
            rw [← List.take_append_drop (i + 1) ps]
            unfold shareB at c ⊢
            rw [List.any_append, c, Bool.true_or]
          have := q H5 (sm.trans s5)
          rw [e] at this
          exact this
    · obtain ⟨y2, y3, y4, y5, rfl, sm, hf⟩ := hP
      rw [pr.1, List.take_length] at hf
      have := q Hx sm
      rw [hf] at this
      exact this
theorem ok_LRis {f : Addr} {fd : FuncData} (F : Fun K "_law_rising" "_law_rising" sLRis f fd) (C__law_is_number : Cal P w K mg base 1 "_law_is_number" ["_law_thing"] spIsNum) (m_tuple : mg "tuple" = none) (m_list : mg "list" = none) (m_isinstance : mg "isinstance" = none) (m_all : mg "all" = none) (m_zip : mg "zip" = none) : FnOk P w K mg base CX0 2 f fd ["_law_thing"] spLRis := by
  refine F.ok scLRis (fun vs H Q E h => ?_) (fun cdv A outer s H vs Q E hr h => ?_)
  · obtain ⟨a, ns, rfl, _⟩ := h
    rfl
  · obtain ⟨a, ns, rfl, hA, hz, h0, hI, q⟩ := h
    refine ⟨_, pss_cons (ps_if (PW.pt (pw_or (pt_not (pt_val (pe_callB call_isiT (by rfl) m_isinstance (by decide +kernel) (pa_cons (pv 0) (pa_cons (pe_tup (pa_cons (pe_bltn (v := .ty "list") (by rfl) m_list (by decide +kernel) rfl) (pa_cons (pe_bltn (v := .ty "tuple") (by rfl) m_tuple (by decide +kernel) rfl) pa_nil))) pa_nil))))) (pw_or1 (pt_not (pt_val (pe_callB (cr_all rfl) (by rfl) m_all (by decide +kernel) (pa_cons (pe_lc (own := [("_law_one", 1)]) (g := (gName 1)) (tt := tYes) (te := (tCall spIsNum [] E0 (tCons (tVar 1) tNil))) rfl scLRis.nd (pi_list (pv 0)) (blkOk_by (own := [("_law_one", 1)]) (N := ["_law_thing", "_law_one", "_law_other"]) (sc := defScope sLRis) (by decide +kernel)) (fun _ _ _ _ _ => (pg_name (i := 1) scLRis.nd rfl (.inl rfl))) (fun _ _ _ _ _ => pts_nil) (fun _ _ _ _ _ => (pe_own C__law_is_number hr (by rfl) (pa_cons (pv 1) pa_nil)))) pa_nil))))))) (pss_one (ps_ret pe_bl))
        pss_nil)
      (pss_one (ps_ret (pe_callB (cr_all rfl) (by rfl) m_all (by decide +kernel) (pa_cons (pe_lc (own := [("_law_one", 1), ("_law_other", 2)]) (g := (gTup K 2 (gCons (gName 1) (gCons (gName 2) gNil)))) (tt := tYes) (te := (tOp (rI0 fun i j => .bl (decide (i < j))) (tVar 1) (tVar 2))) rfl scLRis.nd (RZ.pi_zipA (by rfl) m_zip (pa_cons (pv 0) (pa_cons (pe_slice sl_list (pv 0) (po_some pe_int) po_none) pa_nil))) (blkOk_by (own := [("_law_one", 1), ("_law_other", 2)]) (N := ["_law_thing", "_law_one", "_law_other"]) (sc := defScope sLRis) (by decide +kernel)) (fun _ _ _ _ _ => (pg_tup rfl (pgs_cons (pg_name (i := 1) scLRis.nd rfl (.inl rfl)) (pgs_cons (pg_name (i := 2) scLRis.nd rfl (.inl rfl)) pgs_nil)))) (fun _ _ _ _ _ => pts_nil) (fun _ _ _ _ _ => (pe_cmpR op_lt (pv 1) (pv 2) (nomark _)))) pa_nil)))), ?_⟩
    have hA' : H a = some (.lst (ns.map V.int)) := hA
    have lns : (ns.map V.int).length = ns.length := List.length_map ..
    refine ⟨_, rfl, (by show 2 ≤ sizeLine; decide), fun p np => ?_⟩
    have sp : Same H (upd H p (.tup [.ty "list", .ty "tuple"])) := same_upd np
    refine ⟨.ref a, p, _, .type "list", [.type "list", .type "tuple"], true, rfl, upd_same, .cons (.ty _) (.cons (.ty _) .nil), .base (.lst (sp _ _ hA')), kit2L, _, rfl, ite2 (fun z => nomatch z) (fun _ => ?_)⟩
    have eXp := sp _ _ hA'
    refine ⟨_, rfl, a, rfl, ⟨_, SqL.of eXp⟩, fun G nG => lc_bs (bs := ns.map fun _ => true) nG eXp (by rw [List.length_map, List.length_map]) (by rw [List.length_map]; omega) (fun j x bb H4 Kt Kn hx2 hb2 s4 k => ?_) (fun H4 s4 eG => ?_)⟩
    · rw [List.getElem?_map] at hx2 hb2
      cases hp : ns[j]? with
      | none => rw [hp] at hx2; cases hx2
      | some n =>
        rw [hp] at hx2 hb2
        cases hx2
        cases hb2
        exact ⟨rfl, _, rfl, n, rfl, h0 n (List.mem_of_getElem? hp), k _ (Same.refl _)⟩
    refine ⟨G, _, rfl, SqL.of eG, _, rfl, ?_⟩
    have eall : (ns.map fun _ => true).all id = true := by
      rw [List.all_map, List.all_eq_true]
      exact fun _ _ => rfl
    rw [eall]
    refine ite2 (fun z => nomatch z) (fun _ => ?_)
    have s1 := sp.trans s4
    have eL1 := s1 _ _ hA'
    refine ⟨_, rfl, _, rfl, _, rfl, a, _, rfl, SqL.of eL1, fun p2 np2 => ?_⟩
    rw [cutV_tail]
    have s2 := same_upd (o := .lst ((ns.map V.int).drop 1)) np2
    have ep2 : upd H4 p2 (.lst ((ns.map V.int).drop 1)) p2 = some (.lst ((ns.map V.int).drop 1)) := upd_same
    generalize upd H4 p2 (.lst ((ns.map V.int).drop 1)) = H2 at s2 ep2
    have ldr : ((ns.map V.int).drop 1).length = ns.length - 1 := by rw [List.length_drop, lns]
    have eL2 := s2 _ _ eL1
    refine ⟨a, p2, _, _, rfl, .inl ⟨SqL.of eL2, SqL.of ep2, fun G nG => lc_it (walk_zip (xs := ns.map V.int) (ys := (ns.map V.int).drop 1) (n := ns.length - 1) (by rw [ldr, lns]; omega)) (fun j H' => Same H2 H' ∧ H' G = some (.lst ((List.replicate j true).map V.bl))) ⟨same_upd nG, upd_same⟩ (fun j H' _ p => ⟨SqL.of (p.1 _ _ eL2), SqL.of (p.1 _ _ ep2)⟩) (fun j x H' H'' hj hP hy => ?_) (fun H3 hP => ?_)⟩⟩
    · obtain ⟨sm, eG⟩ := hP
      obtain ⟨T, u, v, rfl, nT, rfl, e1, e2⟩ := hy
      have l1 : j < ns.length := by omega
      have l2 : j + 1 < ns.length := by omega
      have e1 : (ns.map V.int)[j]? = some u := e1
      have e2 : ((ns.map V.int).drop 1)[j]? = some v := e2
      rw [List.getElem?_map, List.getElem?_eq_getElem l1] at e1
      rw [List.getElem?_drop, List.getElem?_map, show 1 + j = j + 1 by omega, List.getElem?_eq_getElem l2] at e2
      cases e1
      cases e2
      have lt : ns[j] < ns[j + 1] := List.pairwise_iff_getElem.mp hI j (j + 1) l1 l2 (by omega)
      have sT := same_upd (o := .tup [.int ns[j], .int ns[j + 1]]) nT
      refine ⟨T, _, rfl, .inl (.inl upd_same), rfl, _, _, rfl, _, _, rfl, rfl, rfl, _, rfl, _, rfl, _, _, rfl, rfl, _, sT _ _ eG, small1000 (by rw [List.length_map, List.length_replicate]; omega), fun b' o e => ?_, ?_⟩
      · rw [upd_ne (ne_of_none e nG)]
        exact sT _ _ (sm b' o e)
      · rw [upd_same, List.replicate_succ', List.map_append]
        show some (HO.lst (_ ++ [V.bl (decide (ns[j] < ns[j + 1]))])) = _
        rw [decide_eq_true lt]
        rfl
    obtain ⟨s3, eG⟩ := hP
    refine ⟨G, _, rfl, SqL.of eG, ?_⟩
    have eall : (List.replicate (ns.length - 1) true).all id = true := List.all_eq_true.mpr fun b hb => (List.mem_replicate.mp hb).2
    rw [eall]
    exact q _ ((s1.trans s2).trans s3)
theorem ok_Moved {f : Addr} {fd : FuncData} (F : Fun K "_law_moved" "_law_moved" sMoved f fd) : FnOk P w K mg base CX0 1 f fd ["_law_pairs", "_law_many_here", "_law_shift"] spMoved := by
  refine F.ok scMoved (fun vs H Q E h => ?_) (fun cdv A outer s H vs Q E hr h => ?_)
  · obtain ⟨a, m, z, ps, rfl, _⟩ := h
    rfl
  · obtain ⟨a, m, z, ps, rfl, hA, hz, m0, m1, s0, s1, hb, q⟩ := h
    refine ⟨_, pss_one (ps_ret (pe_lc (own := [("_law_first", 3), ("_law_last", 4)]) (g := (gTup K 2 (gCons (gName 3) (gCons (gName 4) gNil)))) (tt := tYes) (te := (tTup (tCons (tOp (rI0 fun i j => .int (i + j)) (tOp (rI CMulW fun i j => .int (i * j)) (tVar 3) (tVar 1)) (tVar 2)) (tCons (tOp (rI0 fun i j => .int (i + j)) (tOp (rI0 fun i j => .int (i - j)) (tOp (rI0 fun i j => .int (i + j)) (tOp (rI CMulW fun i j => .int (i * j)) (tVar 4) (tVar 1)) (tVar 1)) (tC (.int 1))) (tVar 2)) tNil)))) rfl scMoved.nd (pi_list (pv 0)) (blkOk_by (own := [("_law_first", 3), ("_law_last", 4)]) (N := ["_law_pairs", "_law_many_here", "_law_shift", "_law_first", "_law_last"]) (sc := defScope sMoved) (by decide +kernel)) (fun _ _ _ _ _ => (pg_tup rfl (pgs_cons (pg_name (i := 3) scMoved.nd rfl (.inl rfl)) (pgs_cons (pg_name (i := 4) scMoved.nd rfl (.inl rfl)) pgs_nil)))) (fun _ _ _ _ _ => pts_nil) (fun _ _ _ _ _ => (pe_tup (pa_cons (pe_op op_add (pe_op op_mulW (pv 3) (pv 1)) (pv 2)) (pa_cons (pe_op op_add (pe_op op_sub (pe_op op_add (pe_op op_mulW (pv 4) (pv 1)) (pv 1)) pe_int) (pv 2)) pa_nil)))))), ?_⟩
    obtain ⟨us, eA, pr⟩ := id hA
    have lu := pr.1
    refine ⟨_, rfl, a, rfl, ⟨_, SqL.of eA⟩, fun G nG => lc_list (xs := us) (fun j H' => Same H H' ∧ ∃ ws, H' G = some (.lst ws) ∧ Prs H' ws (movedF m z (ps.take j))) ⟨same_upd nG, [], upd_same, Prs.nil⟩ (fun j H' _ hP => SqL.of (hP.1 _ _ eA)) (fun j x H' hx hP => ?_) (fun H9 hP => ?_)⟩
    · obtain ⟨sm, ws, eG, hw⟩ := hP
      obtain ⟨g, T, eg, rfl, eT⟩ := prs_at pr hx
      have hj : j < ps.length := (List.getElem?_eq_some_iff.mp eg).1
      obtain ⟨b1, b2, b3, b4⟩ := hb g (List.mem_of_getElem? eg)
      have lw : ws.length ≤ 900 := by
        rw [hw.1, movedF, List.length_map, List.length_take]; omega
      have w1 : CMulW g.1 m := wide_mul (a := 250) (b := 250) (by omega) (by omega) (by decide) (by decide) (by decide)
      have w2 : CMulW g.2 m := wide_mul (a := 250) (b := 250) (by omega) (by omega) (by decide) (by decide) (by decide)
      refine ⟨T, _, rfl, .inl (.inl (sm _ _ eT)), rfl, _, _, rfl, _, _, rfl, rfl, rfl, ?_⟩
      refine ⟨_, rfl, _, rfl, _, _, rfl, rfl, w1, _, rfl, _, _, rfl, rfl, ?_⟩
      refine ⟨_, rfl, _, rfl, _, _, rfl, rfl, w2, _, rfl, _, _, rfl, rfl, _, _, rfl, rfl, _, rfl, _, _, rfl, rfl, ?_⟩
      refine ⟨(by show 2 ≤ sizeLine; decide), fun T2 nT2 => ?_⟩
      have sT := same_upd (o := .tup [.int (g.1 * m + z), .int (g.2 * m + m - 1 + z)]) nT2
      refine ⟨_, sT _ _ eG, small1000 (by omega), fun b' o e => ?_, _, upd_same, ?_⟩
      · rw [upd_ne (ne_of_none e nG)]
        exact sT _ _ (sm b' o e)
      · have et : movedF m z (ps.take (j + 1)) = movedF m z (ps.take j) ++ [(g.1 * m + z, g.2 * m + m - 1 + z)] := by
          unfold movedF
          rw [List.take_add_one, eg, List.map_append]
          rfl
        rw [et]
        exact ((hw.same sT).snoc upd_same).upd_lst (sT _ _ eG)
    · obtain ⟨sm, ws, eG, hw⟩ := hP
      rw [lu, List.take_length] at hw
      exact q G H9 nG ⟨ws, eG, hw⟩ sm
end

/-! ### the law's own look at told samples -/
def ToldA (H : Hp) (t : Addr) (rs gs : List (Int × Int)) : Prop := (∃ (i : Nat) (r : Int × Int), H t = some (.tup [.str "blind", .int (i : Int)]) ∧ rs[i]? = some r ∧ allGB gs r = true ∧ ∀ (j : Nat) r', j < i → rs[j]? = some r' → allGB gs r' = false) ∨
  ∃ (N A : Addr) (ns ap : List Int), H t = some (.tup [.str "samples", .ref N, .ref A]) ∧ IntsA H N ns ∧ IntsA H A ap ∧ SampT rs gs ns ap ∧ (∀ e ∈ ns, 0 ≤ e) ∧ ap.length ≤ 700
theorem ToldA.s {H : Hp} {t : Addr} {rs gs : List (Int × Int)} (h : ToldA H t rs gs) : ToldS H t rs gs := h.elim .inl fun ⟨N, A, ns, ap, e, h1, h2, r⟩ => .inr ⟨N, A, ns, ap, e, h1.q, h2.q, r⟩
def spSShown : Sp := fun vs H Q _ => ∃ (a b t : Addr) (rs gs : List (Int × Int)), vs = [.ref a, .ref b, .ref t] ∧ LsA H a rs ∧ LsA H b gs ∧ rs.length ≤ 700 ∧ gs.length ≤ 100 ∧ (∀ r ∈ rs, r.1 ≤ r.2) ∧ Ris 0 gs ∧ ToldA H t rs gs ∧ ∀ H', Same H H' → Q (.bl true) H'
abbrev sSShown : Stmt := topS 32
theorem scSShown : FnScope ["_law_runs_here", "_law_gone_here", "_law_told", "_law_left_here", "_law_some", "_law_number", "_law_place", "_law_span", "_law_other", "_law_first", "_law_last"] ["_law_runs_here", "_law_gone_here", "_law_told"] (defScope sSShown) := ⟨rfl, rfl, rfl, by decide +kernel, rfl, by decide +kernel, by decide +kernel⟩
section
variable {K : PySem.W.Frag} {mg : Str → Option Value} {P : Program} {w : World} {base : Heap}
theorem ok_SShown {f : Addr} {fd : FuncData} (F : Fun K "_law_samples_shown" "_law_samples_shown" sSShown f fd) (C__law_left : Cal P w K mg base 1 "_law_left" ["_law_span", "_law_gone_here"] spLLeft) (C__law_is_number : Cal P w K mg base 1 "_law_is_number" ["_law_thing"] spIsNum) (C__law_rising : Cal P w K mg base 2 "_law_rising" ["_law_thing"] spLRis) (C__law_share : Cal P w K mg base 1 "_law_share" ["_law_one", "_law_other"] spShare) (m_isinstance : mg "isinstance" = none) (m_tuple : mg "tuple" = none) (m_len : mg "len" = none) (m_str : mg "str" = none) (m_any : mg "any" = none) (m_enumerate : mg "enumerate" = none) : FnOk P w K mg base CX0 3 f fd ["_law_runs_here", "_law_gone_here", "_law_told"] spSShown := by
  refine F.ok scSShown (fun vs H Q E h => ?_) (fun cdv A outer s H vs Q E hr h => ?_)
  · obtain ⟨a, b, t, rs, gs, rfl, _⟩ := h
    rfl
  · obtain ⟨a, b, t, rs, gs, rfl, hA, hB, hra, hgb, hro, hrg, ht, q⟩ := h
    refine ⟨_, pss_cons (ps_if (PW.pt (pw_or (pt_not (pt_val (pe_callB call_isi (by rfl) m_isinstance (by decide +kernel) (pa_cons (pv 2) (pa_cons (pe_bltn (v := .ty "tuple") (by rfl) m_tuple (by decide +kernel) rfl) pa_nil))))) (pw_or (pt_cmpR op_notIn_seq (pe_callB call_len_seq (by rfl) m_len PySem.boot_len (pa_cons (pv 2) pa_nil)) (pe_tup (pa_cons pe_int (pa_cons pe_int pa_nil))) (by rfl)) (pw_or1 (pt_not (pt_val (pe_callB call_isi (by rfl) m_isinstance (by decide +kernel) (pa_cons (pe_ix ix_tup (pv 2) pe_int (fun _ _ => rfl)) (pa_cons (pe_bltn (v := .ty "str") (by rfl) m_str (by decide +kernel) rfl) pa_nil))))))))) (pss_one (ps_ret pe_bl))
        pss_nil)
      (pss_cons (ps_set (i := 3) scSShown.nd rfl (.inr rfl) (pe_lc (own := [("_law_span", 7)]) (g := (gName 7)) (tt := tYes) (te := (tCall spLLeft [] E0 (tCons (tVar 7) (tCons (tVar 1) tNil)))) rfl scSShown.nd (pi_list (pv 0)) (blkOk_by (own := [("_law_span", 7)]) (N := ["_law_runs_here", "_law_gone_here", "_law_told", "_law_left_here", "_law_some", "_law_number", "_law_place", "_law_span", "_law_other", "_law_first", "_law_last"]) (sc := defScope sSShown) (by decide +kernel)) (fun _ _ _ _ _ => (pg_name (i := 7) scSShown.nd rfl (.inl rfl))) (fun _ _ _ _ _ => pts_nil) (fun _ _ _ _ _ => (pe_own C__law_left (hr.mono (show 1 ≤ 2 by decide)) (by rfl) (pa_cons (pv 7) (pa_cons (pv 1) pa_nil))))))
      (pss_cons (ps_if (PW.pt (pw_and (pt_cmpR op_eq (pe_ix ix_tup (pv 2) pe_int (fun _ _ => rfl)) pe_str (nomark _)) (pw_and1 (pt_cmpR op_eq (pe_callB call_len_seq (by rfl) m_len PySem.boot_len (pa_cons (pv 2) pa_nil)) pe_int (nomark _))))) (pss_one (ps_ret (pe_and (pe_own C__law_is_number (hr.mono (show 1 ≤ 2 by decide)) (by rfl) (pa_cons (pe_ix ix_tup (pv 2) pe_int (fun _ _ => rfl)) pa_nil)) (pe_and (pe_cmpR (op_inD (u65 hr)) (pe_lst pa_nil) (pv 3) (by rfl)) (pe_one (pe_cmpR (op_eqD hr.units) (pe_bm PySem.F.plainAttrs_list PySem.F.slot_list_index PySem.F.type_list_index (mt_indexD (u65 hr)) (pv 3) (pa_cons (pe_lst pa_nil) pa_nil)) (pe_ix ix_tup (pv 2) pe_int (fun _ _ => rfl)) (nomark _)))))))
        pss_nil)
      (pss_cons (ps_if (PW.pt (pw_or (pt_cmpR op_ne (pe_ix ix_tup (pv 2) pe_int (fun _ _ => rfl)) pe_str (nomark _)) (pw_or (pt_cmpR op_ne (pe_callB call_len_seq (by rfl) m_len PySem.boot_len (pa_cons (pv 2) pa_nil)) pe_int (nomark _)) (pw_or (pt_not (pt_val (pe_own C__law_rising hr (by rfl) (pa_cons (pe_ix ix_tup (pv 2) pe_int (fun _ _ => rfl)) pa_nil)))) (pw_or1 (pt_not (pt_val (pe_own C__law_rising hr (by rfl) (pa_cons (pe_ix ix_tup (pv 2) pe_int (fun _ _ => rfl)) pa_nil))))))))) (pss_one (ps_ret pe_bl))
        pss_nil)
      (pss_cons (ps_for PassesOwn.never rfl (pi_list (pv 3)) (pg_name (i := 4) scSShown.nd rfl (.inl rfl))
        (pss_one (ps_if (pt_not (pt_val (pe_callB (cr_any rfl) (by rfl) m_any (by decide +kernel) (pa_cons (pe_lc (own := [("_law_first", 9), ("_law_last", 10)]) (g := (gTup K 2 (gCons (gName 9) (gCons (gName 10) gNil)))) (tt := tYes) (te := (tCB (rAny K) (tCons (tLc (iList K (tOp (rIxT K) (tVar 2) (tC (.int 1)))) (gName 5) tYes (tChain (rI0 fun i j => .bl (decide (i ≤ j))) (rI0 fun i j => .bl (decide (i ≤ j))) (tVar 9) (tVar 5) (tVar 10)) [5]) tNil))) rfl scSShown.nd (pi_list (pv 4)) (blkOk_by (own := [("_law_first", 9), ("_law_last", 10)]) (N := ["_law_runs_here", "_law_gone_here", "_law_told", "_law_left_here", "_law_some", "_law_number", "_law_place", "_law_span", "_law_other", "_law_first", "_law_last"]) (sc := defScope sSShown) (by decide +kernel)) (fun _ _ _ _ _ => (pg_tup rfl (pgs_cons (pg_name (i := 9) scSShown.nd rfl (.inr rfl)) (pgs_cons (pg_name (i := 10) scSShown.nd rfl (.inr rfl)) pgs_nil)))) (fun _ _ _ _ _ => pts_nil) (fun _ _ _ _ _ => (pe_callB (cr_any rfl) (by rfl) m_any (by decide +kernel) (pa_cons (pe_lc (own := [("_law_number", 5)]) (g := (gName 5)) (tt := tYes) (te := (tChain (rI0 fun i j => .bl (decide (i ≤ j))) (rI0 fun i j => .bl (decide (i ≤ j))) (tVar 9) (tVar 5) (tVar 10))) rfl scSShown.nd (pi_list (pe_ix ix_tup (pv 2) pe_int (fun _ _ => rfl))) (blkOk_by (own := [("_law_number", 5)]) (N := ["_law_runs_here", "_law_gone_here", "_law_told", "_law_left_here", "_law_some", "_law_number", "_law_place", "_law_span", "_law_other", "_law_first", "_law_last"]) (by show blkC _ ({ kind := .function, names := [(".0", .local), ("_law_first", .cell), ("_law_last", .cell), ("any", .globalImplicit), ("_law_told", .cell)], isGenerator := false, isCoroutine := false } : Scope) _ _ = true; decide +kernel)) (fun _ _ _ _ _ => (pg_name (i := 5) scSShown.nd rfl (.inl rfl))) (fun _ _ _ _ _ => pts_nil) (fun _ _ _ _ _ => (pe_chain op_le op_le (pv 9) (pv 5) (pv 10)))) pa_nil)))) pa_nil)))) (pss_one (ps_ret pe_bl))
          pss_nil)))
      (pss_cons (ps_if (pt_val (pe_callB (cr_any rfl) (by rfl) m_any (by decide +kernel) (pa_cons (pe_lc (own := [("_law_number", 5)]) (g := (gName 5)) (tt := tYes) (te := (tCB (rAny K) (tCons (tLc (iList K (tVar 1)) (gTup K 2 (gCons (gName 9) (gCons (gName 10) gNil))) tYes (tChain (rI0 fun i j => .bl (decide (i ≤ j))) (rI0 fun i j => .bl (decide (i ≤ j))) (tVar 9) (tVar 5) (tVar 10)) [9, 10]) tNil))) rfl scSShown.nd (pi_list (pe_ix ix_tup (pv 2) pe_int (fun _ _ => rfl))) (blkOk_by (own := [("_law_number", 5)]) (N := ["_law_runs_here", "_law_gone_here", "_law_told", "_law_left_here", "_law_some", "_law_number", "_law_place", "_law_span", "_law_other", "_law_first", "_law_last"]) (sc := defScope sSShown) (by decide +kernel)) (fun _ _ _ _ _ => (pg_name (i := 5) scSShown.nd rfl (.inr rfl))) (fun _ _ _ _ _ => pts_nil) (fun _ _ _ _ _ => (pe_callB (cr_any rfl) (by rfl) m_any (by decide +kernel) (pa_cons (pe_lc (own := [("_law_first", 9), ("_law_last", 10)]) (g := (gTup K 2 (gCons (gName 9) (gCons (gName 10) gNil)))) (tt := tYes) (te := (tChain (rI0 fun i j => .bl (decide (i ≤ j))) (rI0 fun i j => .bl (decide (i ≤ j))) (tVar 9) (tVar 5) (tVar 10))) rfl scSShown.nd (pi_list (pv 1)) (blkOk_by (own := [("_law_first", 9), ("_law_last", 10)]) (N := ["_law_runs_here", "_law_gone_here", "_law_told", "_law_left_here", "_law_some", "_law_number", "_law_place", "_law_span", "_law_other", "_law_first", "_law_last"]) (by show blkC _ ({ kind := .function, names := [(".0", .local), ("_law_number", .cell), ("any", .globalImplicit), ("_law_gone_here", .cell)], isGenerator := false, isCoroutine := false } : Scope) _ _ = true; decide +kernel)) (fun _ _ _ _ _ => (pg_tup rfl (pgs_cons (pg_name (i := 9) scSShown.nd rfl (.inl rfl)) (pgs_cons (pg_name (i := 10) scSShown.nd rfl (.inl rfl)) pgs_nil)))) (fun _ _ _ _ _ => pts_nil) (fun _ _ _ _ _ => (pe_chain op_le op_le (pv 9) (pv 5) (pv 10)))) pa_nil)))) pa_nil))) (pss_one (ps_ret pe_bl))
        pss_nil)
      (pss_cons (ps_if (PW.pt (pw_or (pt_cmpR op_ne (pe_callB call_len_seq (by rfl) m_len PySem.boot_len (pa_cons (pe_ix ix_tup (pv 2) pe_int (fun _ _ => rfl)) pa_nil)) (pe_callB call_len_seq (by rfl) m_len PySem.boot_len (pa_cons (pe_ix ix_tup (pv 2) pe_int (fun _ _ => rfl)) pa_nil)) (nomark _)) (pw_or1 (pt_val (pe_callB (cr_any rfl) (by rfl) m_any (by decide +kernel) (pa_cons (pe_lc (own := [("_law_place", 6)]) (g := (gName 6)) (tt := tYes) (te := (tOp (rI0 fun i j => .bl (decide (j ≤ i))) (tVar 6) (tCB (fun xs H Q => ∃ p ys, xs = [.ref p] ∧ (SqL K H p ys ∨ SqT K H p ys) ∧ Q (.int ys.length) H) (tCons (tVar 0) tNil)))) rfl scSShown.nd (pi_list (pe_ix ix_tup (pv 2) pe_int (fun _ _ => rfl))) (blkOk_by (own := [("_law_place", 6)]) (N := ["_law_runs_here", "_law_gone_here", "_law_told", "_law_left_here", "_law_some", "_law_number", "_law_place", "_law_span", "_law_other", "_law_first", "_law_last"]) (sc := defScope sSShown) (by decide +kernel)) (fun _ _ _ _ _ => (pg_name (i := 6) scSShown.nd rfl (.inl rfl))) (fun _ _ _ _ _ => pts_nil) (fun _ _ _ _ _ => (pe_cmpR op_ge (pv 6) (pe_callB call_len_seq (by rfl) m_len PySem.boot_len (pa_cons (pv 0) pa_nil)) (nomark _)))) pa_nil)))))) (pss_one (ps_ret pe_bl))
        pss_nil)
      (pss_cons (ps_for PassesOwn.never rfl (pi_enum (by rfl) m_enumerate (pa_cons (pe_ix ix_tup (pv 2) pe_int (fun _ _ => rfl)) pa_nil)) (pg_tup rfl (pgs_cons (pg_name (i := 5) scSShown.nd rfl (.inl rfl)) (pgs_cons (pg_name (i := 6) scSShown.nd rfl (.inr rfl)) pgs_nil)))
        (pss_one (ps_if (pt_val (pe_callB (cr_any rfl) (by rfl) m_any (by decide +kernel) (pa_cons (pe_lc (own := [("_law_other", 8)]) (g := (gName 8)) (tt := tYes) (te := (tCall spShare [] E0 (tCons (tOp (rIxL K) (tVar 3) (tVar 6)) (tCons (tOp (rIxL K) (tVar 3) (tVar 8)) tNil)))) rfl scSShown.nd (pi_list (pe_slice sl_list (pe_ix ix_tup (pv 2) pe_int (fun _ _ => rfl)) po_none (po_some (pv 5)))) (blkOk_by (own := [("_law_other", 8)]) (N := ["_law_runs_here", "_law_gone_here", "_law_told", "_law_left_here", "_law_some", "_law_number", "_law_place", "_law_span", "_law_other", "_law_first", "_law_last"]) (sc := defScope sSShown) (by decide +kernel)) (fun _ _ _ _ _ => (pg_name (i := 8) scSShown.nd rfl (.inl rfl))) (fun _ _ _ _ _ => pts_nil) (fun _ _ _ _ _ => (pe_own C__law_share (hr.mono (show 1 ≤ 2 by decide)) (by rfl) (pa_cons (pe_ix ix_list (pv 3) (pv 6) (fun _ _ => rfl)) (pa_cons (pe_ix ix_list (pv 3) (pv 8) (fun _ _ => rfl)) pa_nil))))) pa_nil))) (pss_one (ps_ret pe_bl))
          pss_nil)))
      (pss_one (ps_ret pe_bl))))))))), ?_⟩
    obtain ⟨wd, ts, et, hts⟩ : ∃ (wd : Str) (ts : List V), H t = some (.tup (.str wd :: ts)) ∧ (ts.length = 1 ∨ ts.length = 2) := by
      rcases ht with ⟨i, r, e, _⟩ | ⟨N, A, ns, ap, e, _⟩
      · exact ⟨_, _, e, .inl rfl⟩
      · exact ⟨_, _, e, .inr rfl⟩
    obtain ⟨us, eA, pr⟩ := id hA
    have lus : us.length = rs.length := pr.1
    refine ⟨_, rfl, _, _, .type "tuple", .type "tuple", true, rfl, .ty _, .base (.tup et), kit_ty (by decide +kernel), _, rfl, ite2 (fun z => nomatch z) (fun _ => ?_)⟩
    refine ⟨_, rfl, t, _, rfl, .inr (.inl (.inl et)), (by show 2 ≤ sizeLine; decide), fun p np => ?_⟩
    have sp := same_upd (o := .tup [.int 2, .int 3]) np
    have hin : inV (.int (((V.str wd :: ts).length : Nat) : Int)) [.int 2, .int 3] = true := by
      rw [List.length_cons]
      rcases hts with z | z <;> rw [z] <;> decide
    refine ⟨p, _, rfl, .inr (.inl (.inl upd_same)), rfl, rfl, ?_⟩
    rw [hin]
    refine ⟨_, rfl, ite2 (fun z => nomatch z) (fun _ => ?_)⟩
    have et1 := sp _ _ et
    refine ⟨_, rfl, t, _, 0, _, rfl, rfl, .inl (.inl et1), atI_nat (j := 0) rfl, _, _, .type "str", .type "str", true, rfl, .ty _, .base (.str wd), kit_ty (by decide +kernel), _, rfl, ite2 (fun z => nomatch z) (fun _ => ?_)⟩
    generalize hH1 : upd H p (.tup [.int 2, .int 3]) = H1 at et1 sp
    clear hin
    have eA1 := sp _ _ eA
    have hB1 := hB.same sp
    refine ⟨_, rfl, a, rfl, ⟨_, SqL.of eA1⟩, fun L nL => lc_list (xs := us) (fun j H' => Same H1 H' ∧ ∃ ws, H' L = some (.lst ws) ∧ LR H' ws ((rs.take j).map (leftR gs)) ∧ ∀ v ∈ ws, v ≠ .ref L) ⟨same_upd nL, [], upd_same, LR.nil, fun _ h => nomatch h⟩ (fun j H' _ hP => SqL.of (hP.1 _ _ eA1)) (fun j x H' hx hP => ?_) (fun H2 hP => ?_)⟩
    · obtain ⟨sm, ws, eL, hLR, hng⟩ := hP
      obtain ⟨r, T, er, rfl, eT⟩ := prs_at pr hx
      have hj : j < rs.length := (List.getElem?_eq_some_iff.mp er).1
      refine ⟨rfl, _, rfl, _, rfl, T, b, r, gs, rfl, sm _ _ (sp _ _ eT), hB1.same sm, hgb, fun l2 H4 nl2 hl2 s4 => ?_⟩
      have eL4 := s4 _ _ eL
      have n2L : l2 ≠ L := fun z => by rw [z, eL] at nl2; cases nl2
      have lws : ws.length ≤ 700 := by rw [hLR.1, List.length_map, List.length_take]; omega
      refine ⟨_, eL4, small1000 (by omega), fun b' o e => ?_, ws ++ [.ref l2], upd_same, ?_, fun v hv => ?_⟩
      · rw [upd_ne (ne_of_none e nL)]
        exact s4 _ _ (sm b' o e)
      · have h1 := (hLR.same s4).snoc hl2
        have et : (rs.take (j + 1)).map (leftR gs) = (rs.take j).map (leftR gs) ++ [leftR gs r] := by rw [List.take_add_one, er, List.map_append]; rfl
        rw [et]
        refine ⟨h1.1, fun i r' e => ?_⟩
        obtain ⟨x, f1, us', f2, f3⟩ := h1.2 i r' e
        have nx : x ≠ L := fun z => by
          have hm := List.mem_of_getElem? f1
          rcases List.mem_append.mp hm with y | y
          · exact hng _ y (by rw [z])
          · exact n2L ((V.ref.inj (List.mem_singleton.mp y)).symm.trans z)
        exact ⟨x, f1, us', by rw [upd_ne nx]; exact f2, f3.upd_lst eL4⟩
      · rcases List.mem_append.mp hv with z | z
        · exact hng v z
        · rw [List.mem_singleton.mp z]
          exact fun w => n2L (V.ref.inj w)
    obtain ⟨s2, ws, eL, hLR, _⟩ := hP
    rw [lus, List.take_length] at hLR
    have lws : ws.length = rs.length := by rw [hLR.1, List.length_map]
    have s02 := sp.trans s2
    have et2 := s2 _ _ et1
    refine ⟨_, rfl, t, _, 0, _, rfl, rfl, .inl (.inl et2), atI_nat (j := 0) rfl, rfl, ?_⟩
    rcases ht with ⟨i0, r0, eT, er0, hg0, hf0⟩ | ⟨N, A2, ns, ap, eT, hN, hP, hok, hnn, hap⟩
    · rw [eT] at et
      cases et
      rw [decide_eq_true rfl]
      refine ⟨_, rfl, iteT ⟨_, rfl, t, _, rfl, .inr (.inl (.inl et2)), rfl, _, rfl, iteT ?_⟩⟩
      refine ⟨_, rfl, t, _, 1, _, rfl, rfl, .inl (.inl et2), atI_nat (j := 1) rfl, (i0 : Int), rfl, by omega, _, rfl, iteT ?_⟩
      refine ⟨Nat.zero_le _, fun E0' nE => ?_⟩
      have sE := same_upd (o := .lst []) nE
      obtain ⟨ls, els⟩ : ∃ ls, ls = rs.map (leftR gs) := ⟨_, rfl⟩
      rw [← els] at hLR
      have ell : ls.length = rs.length := by rw [els, List.length_map]
      have dpL : ∀ {H' : Hp}, Same H2 H' → Dp K H' (.ref L) (.list (ls.map setD')) := fun s' => .lst (SqL.of (s' _ _ eL)) (dp_sets (hLR.same s'))
      refine ⟨_, rfl, .list [], ls.map setD', .lst (SqL.of upd_same) .nil, dpL sE, by rfl, shaped_sets ls, ?_⟩
      have ea' : ((ls.map setD').any fun z => PyData.eqv z (.list [])) = ls.any List.isEmpty := by
        rw [List.any_map]
        congr 1
        funext l
        exact eqv_set l
      rw [ea']
      have il : i0 < rs.length := (List.getElem?_eq_some_iff.mp er0).1
      have jl : i0 < ls.length := by omega
      have emp : ∀ (i : Nat) r l, rs[i]? = some r → ls[i]? = some l → (l.isEmpty = true ↔ allGB gs r = true) := fun i r l er el => by
        rw [els, List.getElem?_map, er] at el
        cases el
        rw [List.isEmpty_iff, leftR_nil hrg]
      have je : ls[i0].isEmpty = true := (emp i0 _ _ er0 (List.getElem?_eq_getElem jl)).mpr hg0
      rw [show ls.any List.isEmpty = true from List.any_eq_true.mpr ⟨_, List.getElem_mem jl, je⟩]
      refine ⟨_, rfl, iteT ⟨_, rfl, .inl ⟨rfl, _, SqL.of (sE _ _ eL)⟩, Nat.zero_le _, fun E1 nE1 => ?_⟩⟩
      have sE1 := same_upd (o := .lst []) nE1
      have s4 := ((s02.trans sE).trans sE1)
      refine ⟨L, .ref E1, .list [], ls.map setD', i0, setD' ls[i0], rfl, rfl, dpL (sE.trans sE1), .lst (SqL.of upd_same) .nil, shaped_sets ls, by rfl, by rw [List.getElem?_map, List.getElem?_eq_getElem jl]; rfl, by rw [eqv_set]; exact je, fun m z hm hz => ?_, ?_⟩
      · rw [List.getElem?_map] at hz
        cases hl : ls[m]? with
        | none => rw [hl] at hz; cases hz
        | some l =>
          rw [hl] at hz
          cases hz
          rw [eqv_set]
          have ml : m < rs.length := by omega
          have h1 := hf0 m _ hm (List.getElem?_eq_getElem ml)
          have h2 := emp m _ _ (List.getElem?_eq_getElem ml) hl
          rw [h1] at h2
          cases c : l.isEmpty with
          | false => rfl
          | true => exact absurd (h2.mp c) Bool.false_ne_true
      · refine ⟨_, rfl, t, _, 1, _, rfl, rfl, .inl (.inl (s4 _ _ eT)), atI_nat (j := 1) rfl, .int (i0 : Int), .int (i0 : Int), .int _, .int _, by rfl, by rfl, ?_⟩
        rw [show PyData.eqv (.int (i0 : Int)) (.int (i0 : Int)) = true by simp [PyData.eqv]]
        exact q _ s4
    · rw [eT] at et
      cases et
      rw [decide_eq_false (by decide)]
      refine ⟨_, rfl, iteF (iteF ?_)⟩
      refine ⟨_, rfl, t, _, 0, _, rfl, rfl, .inl (.inl et2), atI_nat (j := 0) rfl, rfl, _, rfl, ite2 (fun z => by simp at z) (fun _ => ?_)⟩
      refine ⟨_, rfl, t, _, rfl, .inr (.inl (.inl et2)), rfl, _, rfl, ite2 (fun z => by simp at z) (fun _ => ?_)⟩
      have hN2 : IntsA H2 N ns := s02 _ _ hN
      have hP2 : IntsA H2 A2 ap := s02 _ _ hP
      have nz : ns.length ≤ 700 := by rw [← hok.len]; exact hap
      refine ⟨_, rfl, t, _, 1, _, rfl, rfl, .inl (.inl et2), atI_nat (j := 1) rfl, N, ns, rfl, hN2, by omega, hnn, hok.inc, fun H3 s3 => ⟨_, rfl, ite2 (fun z => nomatch z) (fun _ => ?_)⟩⟩
      refine ⟨_, rfl, t, _, 2, _, rfl, rfl, .inl (.inl (s3 _ _ et2)), atI_nat (j := 2) rfl, A2, ap, rfl, s3 _ _ hP2, by omega, fun n hn => (hok.arng n hn).1, hok.ainc, fun H4 s4 => ⟨_, rfl, ite2 (fun z => nomatch z) (fun _ => ?_)⟩⟩
      have s24 := s3.trans s4
      have s04 := s02.trans s24
      have eL4 := s24 _ _ eL
      have hLR4 := hLR.same s24
      have et4 := s04 _ _ eT
      have lN : (ns.map V.int).length = ns.length := List.length_map ..
      have lP : (ap.map V.int).length = ap.length := List.length_map ..
      -- each set has one
      refine ⟨_, rfl, L, rfl, ⟨_, SqL.of eL4⟩, for_list (xs := ws) (fun i σ Hx => ∃ y4 y5 y6 y7 y8 y9 y10 : Option V, σ = [some (.ref a), some (.ref b), some (.ref t), some (.ref L), y4, y5, y6, y7, y8, y9, y10] ∧ Same H4 Hx) ⟨_, _, _, _, _, _, _, rfl, Same.refl _⟩ (fun i σ Hx _ hP => ?_) (fun i x σ Hx hx hP => ?_) (fun σ Hx hP => ?_)⟩
      · obtain ⟨y4, y5, y6, y7, y8, y9, y10, rfl, sx⟩ := hP
        exact SqL.of (sx _ _ eL4)
      · obtain ⟨y4, y5, y6, y7, y8, y9, y10, rfl, sx⟩ := hP
        have hi : i < ws.length := (List.getElem?_eq_some_iff.mp hx).1
        have er : rs[i]? = some rs[i] := List.getElem?_eq_getElem (by omega)
        have el : (rs.map (leftR gs))[i]? = some (leftR gs rs[i]) := by rw [List.getElem?_map, er]; rfl
        obtain ⟨m, f1, vs, f2, f3⟩ := hLR4.2 i _ el
        rw [hx] at f1
        cases f1
        have s0x := s04.trans sx
        have f2x := sx _ _ f2
        have lv : vs.length ≤ 101 := by rw [f3.1]; exact Nat.le_trans (leftF_len ..) (by omega)
        refine ⟨_, rfl, m, rfl, ⟨_, SqL.of f2x⟩, fun G3 nG3 => lc_bs (bs := (leftR gs rs[i]).map fun p => ns.any fun n => inB2 p n) nG3 f2x (by rw [List.length_map, f3.1]) (by omega) (fun j x bb H6 Kt Kn hx2 hb2 s7 k => ?_) (fun H6 s7 eG3 => ?_)⟩
        · obtain ⟨p, T, ep, rfl, eTp⟩ := prs_at f3 hx2
          rw [List.getElem?_map, ep] at hb2
          cases hb2
          have s07 := s0x.trans s7
          refine ⟨T, _, rfl, .inl (.inl ((sx.trans s7) _ _ eTp)), rfl, _, _, rfl, _, _, rfl, rfl, rfl, ?_⟩
          refine ⟨_, rfl, t, _, 1, _, rfl, rfl, .inl (.inl (s07 _ _ eT)), atI_nat (j := 1) rfl, N, rfl, ⟨_, SqL.of (s07 _ _ hN)⟩, fun G4 nG4 => lc_bs (bs := ns.map fun n => inB2 p n) nG4 (s07 _ _ hN) (by rw [List.length_map, lN]) (by omega) (fun j2 x2 bb2 H8 Kt2 Kn2 hx3 hb3 s9 k2 => ?_) (fun H8 s9 eG4 => ?_)⟩
          · rw [List.getElem?_map] at hx3 hb3
            cases hp : ns[j2]? with
            | none => rw [hp] at hx3; cases hx3
            | some n =>
              rw [hp] at hx3 hb3
              cases hx3
              cases hb3
              have this : Kt2 (V.bl (decide (p.1 ≤ n) && decide (n ≤ p.2))) H8 := k2 _ (Same.refl _)
              refine ⟨rfl, _, rfl, _, rfl, _, _, rfl, rfl, _, rfl, ite2 (fun c1 => ⟨_, rfl, _, _, rfl, rfl, ?_⟩) (fun c1 => ?_)⟩
              · rw [c1] at this
                exact this
              · rw [Bool.eq_false_iff.mpr c1] at this
                exact this
          · refine ⟨G4, _, rfl, SqL.of eG4, ?_⟩
            rw [List.any_map]
            exact k _ s9
        · refine ⟨G3, _, rfl, SqL.of eG3, _, rfl, ?_⟩
          have ea : ((leftR gs rs[i]).map fun p => ns.any fun n => inB2 p n).any id = true := by
            rw [List.any_map, List.any_eq_true]
            obtain ⟨e, he, h1, h2⟩ := hok.hit _ (List.mem_of_getElem? er)
            have hin := (leftF_in (hi := rs[i].2) (n := e) (num := rs[i].1) hrg).mpr ⟨⟨h1, h2⟩, (hok.free e he).1⟩
            obtain ⟨p, hp, p1, p2⟩ := hin
            exact ⟨p, hp, List.any_eq_true.mpr ⟨e, he, inB2_iff.mpr ⟨p1, p2⟩⟩⟩
          rw [ea]
          exact ite2 (fun z => nomatch z) (fun _ => ⟨_, _, _, _, _, _, _, rfl, sx.trans s7⟩)
      obtain ⟨y4, y5, y6, y7, y8, y9, y10, rfl, sx⟩ := hP
      have s0x := s04.trans sx
      have hBx := hB.same s0x
      obtain ⟨ub, eBx, pb⟩ := id hBx
      have lub : ub.length = gs.length := pb.1
      -- none is gone
      refine ⟨_, rfl, t, _, 1, _, rfl, rfl, .inl (.inl (s0x _ _ eT)), atI_nat (j := 1) rfl, N, rfl, ⟨_, SqL.of (s0x _ _ hN)⟩, fun G3 nG3 => lc_bs (bs := ns.map fun _ => false) nG3 (s0x _ _ hN) (by rw [List.length_map, lN]) (by omega) (fun j x bb H6 Kt Kn hx2 hb2 s7 k => ?_) (fun H6 s7 eG3 => ?_)⟩
      · rw [List.getElem?_map] at hx2 hb2
        cases hp : ns[j]? with
        | none => rw [hp] at hx2; cases hx2
        | some n =>
          rw [hp] at hx2 hb2
          cases hx2
          cases hb2
          have hf := (hok.free n (List.mem_of_getElem? hp)).1
          refine ⟨rfl, _, rfl, b, rfl, ⟨_, SqL.of (s7 _ _ eBx)⟩, fun G4 nG4 => lc_bs (bs := gs.map fun g => inB2 g n) nG4 (s7 _ _ eBx) (by rw [List.length_map, lub]) (by omega) (fun j2 x2 bb2 H8 Kt2 Kn2 hx3 hb3 s9 k2 => ?_) (fun H8 s9 eG4 => ?_)⟩
          · obtain ⟨g, T, eg, rfl, eTg⟩ := prs_at pb hx3
            rw [List.getElem?_map, eg] at hb3
            cases hb3
            have this : Kt2 (V.bl (decide (g.1 ≤ n) && decide (n ≤ g.2))) H8 := k2 _ (Same.refl _)
            refine ⟨T, _, rfl, .inl (.inl ((s7.trans s9) _ _ eTg)), rfl, _, _, rfl, _, _, rfl, rfl, rfl, _, rfl, _, rfl, _, _, rfl, rfl, _, rfl, ite2 (fun c1 => ⟨_, rfl, _, _, rfl, rfl, ?_⟩) (fun c1 => ?_)⟩
            · rw [c1] at this
              exact this
            · rw [Bool.eq_false_iff.mpr c1] at this
              exact this
          · refine ⟨G4, _, rfl, SqL.of eG4, ?_⟩
            have e : (gs.map fun g => inB2 g n).any id = false := by
              rw [List.any_map]
              cases c : gs.any (id ∘ fun g => inB2 g n) with
              | false => rfl
              | true => exact absurd (goneB_iff.mp (show goneB gs n = true from c)) hf
            rw [e]
            exact k _ s9
      refine ⟨G3, _, rfl, SqL.of eG3, _, rfl, ?_⟩
      have e : (ns.map fun _ => false).any id = false := by
        rw [List.any_map, List.any_eq_false]
        exact fun _ _ => Bool.false_ne_true
      rw [e]
      refine iteF ?_
      have s07 := s0x.trans s7
      -- as many places as numbers
      refine ⟨_, rfl, t, _, 1, _, rfl, rfl, .inl (.inl (s07 _ _ eT)), atI_nat (j := 1) rfl, N, _, rfl, .inl (SqL.of (s07 _ _ hN)), _, rfl, t, _, 2, _, rfl, rfl, .inl (.inl (s07 _ _ eT)), atI_nat (j := 2) rfl, A2, _, rfl, .inl (SqL.of (s07 _ _ hP)), rfl, _, rfl, ite2 (fun z => ?_) (fun _ => ?_)⟩
      · rw [lN, lP, hok.len] at z
        simp at z
      refine ⟨_, rfl, t, _, 2, _, rfl, rfl, .inl (.inl (s07 _ _ eT)), atI_nat (j := 2) rfl, A2, rfl, ⟨_, SqL.of (s07 _ _ hP)⟩, fun G5 nG5 => lc_bs (bs := ap.map fun _ => false) nG5 (s07 _ _ hP) (by rw [List.length_map, lP]) (by omega) (fun j x bb H8 Kt Kn hx2 hb2 s9 k => ?_) (fun H8 s9 eG5 => ?_)⟩
      · rw [List.getElem?_map] at hx2 hb2
        cases hp : ap[j]? with
        | none => rw [hp] at hx2; cases hx2
        | some n =>
          rw [hp] at hx2 hb2
          cases hx2
          cases hb2
          have hf := hok.arng n (List.mem_of_getElem? hp)
          refine ⟨rfl, _, rfl, _, rfl, a, _, rfl, .inl (SqL.of ((s07.trans s9) _ _ eA)), _, _, rfl, rfl, ?_⟩
          have := k _ (Same.refl _)
          rw [← decide_eq_false (show ¬ ((us.length : Nat) : Int) ≤ n by rw [lus]; omega)] at this
          exact this
      refine ⟨G5, _, rfl, SqL.of eG5, _, rfl, ?_⟩
      have e : (ap.map fun _ => false).any id = false := by
        rw [List.any_map, List.any_eq_false]
        exact fun _ _ => Bool.false_ne_true
      rw [e]
      refine iteF ?_
      have s09 := s07.trans s9
      have ePz : H8 A2 = some (.lst (ap.map V.int)) := s09 _ _ hP
      have sLz : Same H4 H8 := (sx.trans s7).trans s9
      refine ⟨_, rfl, t, _, 2, _, rfl, rfl, .inl (.inl (s09 _ _ eT)), atI_nat (j := 2) rfl, A2, _, rfl, SqL.of ePz, for_it (walk_enum (xs := ap.map V.int)) (fun i σ Hx => ∃ y4 y5 y6 y7 y8 y9 y10 : Option V, σ = [some (.ref a), some (.ref b), some (.ref t), some (.ref L), y4, y5, y6, y7, y8, y9, y10] ∧ Same H8 Hx) ⟨_, _, _, _, _, _, _, rfl, Same.refl _⟩ (fun i σ Hx _ hP => ?_) (fun i v σ Hx Hx' hi hP hy => ?_) (fun σ Hx hP => ?_)⟩
      · obtain ⟨y4, y5, y6, y7, y8, y9, y10, rfl, sy⟩ := hP
        exact SqL.of (sy _ _ ePz)
      · obtain ⟨y4, y5, y6, y7, y8, y9, y10, rfl, sy⟩ := hP
        obtain ⟨T, u, v2, rfl, nT, rfl, e1, e2⟩ := hy
        cases e1
        have e2 : (ap.map V.int)[i]? = some v2 := e2
        rw [List.getElem?_map] at e2
        obtain ⟨pl, epl, rfl⟩ := Option.map_eq_some_iff.mp e2
        have sT := same_upd (o := .tup [.int (i : Nat), .int pl]) nT
        obtain ⟨p0, p1⟩ := hok.arng pl (List.mem_of_getElem? epl)
        obtain ⟨pn, rfl⟩ := Int.eq_ofNat_of_zero_le p0
        have hpn : pn < rs.length := by omega
        have erp : rs[pn]? = some rs[pn] := List.getElem?_eq_getElem hpn
        obtain ⟨m, f1, f2⟩ := hLR4.2 pn _ (by rw [List.getElem?_map, erp]; rfl)
        have sx1 := sy.trans sT
        have sLx := sLz.trans sx1
        have s0T := s09.trans sx1
        refine ⟨T, _, rfl, .inl (.inl upd_same), rfl, _, _, rfl, _, _, rfl, rfl, ?_⟩
        refine ⟨_, rfl, t, _, 2, _, rfl, rfl, .inl (.inl (s0T _ _ eT)), atI_nat (j := 2) rfl, _, rfl, _, rfl, A2, _, rfl, SqL.of (s0T _ _ hP), fun p2 np2 => ?_⟩
        rw [cut_front, ← List.map_take]
        have sp2 := same_upd (o := .lst ((ap.take i).map V.int)) np2
        have li : i ≤ 700 := by
          have := (List.getElem?_eq_some_iff.mp epl).1
          omega
        refine ⟨p2, rfl, ⟨_, SqL.of upd_same⟩, fun G6 nG6 => lc_bs (bs := (ap.take i).map fun _ => false) nG6 upd_same (by rw [List.length_map, List.length_map]) (by rw [List.length_map, List.length_take]; omega) (fun j x bb H9 Kt Kn hx2 hb2 s11 k => ?_) (fun H9 s11 eG6 => ?_)⟩
        · rw [List.getElem?_map] at hx2 hb2
          cases hp : (ap.take i)[j]? with
          | none => rw [hp] at hx2; cases hx2
          | some n =>
            rw [hp] at hx2 hb2
            cases hx2
            cases hb2
            have hj : j < i := by
              have := (List.getElem?_eq_some_iff.mp hp).1
              rw [List.length_take] at this
              omega
            have hp' : ap[j]? = some n := by
              rw [List.getElem?_take, if_pos hj] at hp
              exact hp
            obtain ⟨n0, n1⟩ := hok.arng n (List.mem_of_getElem? hp')
            obtain ⟨nn, rfl⟩ := Int.eq_ofNat_of_zero_le n0
            have hnn' : nn < rs.length := by omega
            have ern : rs[nn]? = some rs[nn] := List.getElem?_eq_getElem hnn'
            obtain ⟨m2, g1, g2⟩ := hLR4.2 nn _ (by rw [List.getElem?_map, ern]; rfl)
            have sL9 := (sLx.trans sp2).trans s11
            have lt : (nn : Int) < pn := by
              have h1 := List.pairwise_iff_getElem.mp hok.ainc j i (List.getElem?_eq_some_iff.mp hp').1 (List.getElem?_eq_some_iff.mp epl).1 hj
              rw [(List.getElem?_eq_some_iff.mp hp').2, (List.getElem?_eq_some_iff.mp epl).2] at h1
              exact h1
            have esh : shareB (leftR gs rs[pn]) (leftR gs rs[nn]) = false := by
              cases c : shareB (leftR gs rs[pn]) (leftR gs rs[nn]) with
              | false => rfl
              | true =>
                obtain ⟨z, z1, z2⟩ := (shareB_iff (leftF_ok _ _ _) (leftF_ok _ _ _)).mp c
                have w1 := (leftF_in (hi := rs[pn].2) (n := z) (num := rs[pn].1) hrg).mp z1
                have w2 := (leftF_in (hi := rs[nn].2) (n := z) (num := rs[nn].1) hrg).mp z2
                exact absurd ⟨⟨w1.1, w2.1⟩, w1.2⟩ (hok.far pn (List.mem_of_getElem? epl) nn (List.mem_of_getElem? hp') (by omega) _ _ erp ern z)
            refine ⟨rfl, _, rfl, _, rfl, L, _, _, .ref m, rfl, rfl, SqL.of (sL9 _ _ eL4), atI_nat f1, _, rfl, _, rfl, L, _, _, .ref m2, rfl, rfl, SqL.of (sL9 _ _ eL4), atI_nat g1, m, m2, _, _, rfl, f2.same sL9, g2.same sL9, Nat.le_trans (leftF_len ..) (by omega), fun H11 s13 => ?_⟩
            rw [esh]
            exact k _ s13
        refine ⟨G6, _, rfl, SqL.of eG6, _, rfl, ?_⟩
        have e : ((ap.take i).map fun _ => false).any id = false := by
          rw [List.any_map, List.any_eq_false]
          exact fun _ _ => Bool.false_ne_true
        rw [e]
        exact ite2 (fun z => nomatch z) (fun _ => ⟨_, _, _, _, _, _, _, rfl, (sx1.trans sp2).trans s11⟩)
      · obtain ⟨y4, y5, y6, y7, y8, y9, y10, rfl, sy⟩ := hP
        exact q Hx (s09.trans sy)
end

open LamX
/-! ### what is shown of prices, runs, costs -/
theorem shown_int40 {i : Int} (h : i.natAbs < 10 ^ 39) : (PyData.int i).shown.length ≤ 40 := by
  have e := int_text_length_le10 (k := 39) (by decide) h
  show (Str.ofString (toString i)).length ≤ 40
  rw [PySem.ofString_length]
  exact e
theorem weight_int {i : Int} (h : i.natAbs < 10 ^ 39) : (PyData.int i).weight ≤ 131 := by
  rw [PyData.weight]
  split
  · omega
  · by_cases z : i.natAbs = 0
    · rw [z]; decide
    · have : i.natAbs.log2 < 130 := (Nat.log2_lt z).mpr (Nat.lt_trans h (by decide))
      omega
theorem showable_int {i : Int} (h : i.natAbs < 10 ^ 39) : (PyData.int i).showable = true := by
  rw [PyData.showable]
  by_cases z : i.natAbs = 0
  · rw [z]; decide
  · exact decide_eq_true (Nat.lt_trans ((Nat.log2_lt (k := 130) z).mpr (Nat.lt_trans h (by decide))) (by decide))
def Small39 (ps : List (Int × Int)) : Prop := ∀ p ∈ ps, p.1.natAbs < 10 ^ 39 ∧ p.2.natAbs < 10 ^ 39
theorem show_prs : ∀ {ps : List (Int × Int)}, Small39 ps → PyData.leavesShortAll 40 (ps.map pairD) = true ∧ PyData.weightAll (ps.map pairD) ≤ 300 * ps.length ∧ PyData.showableAll (ps.map pairD) = true ∧ PyData.hasDictAll (ps.map pairD) = false ∧ PyData.depthAll (ps.map pairD) ≤ 1
  | [], _ => by simp [PyData.leavesShortAll, PyData.weightAll, PyData.showableAll, PyData.hasDictAll, PyData.depthAll]
  | p :: r, h => by
    obtain ⟨g1, g2, g3, g4, g5⟩ := show_prs (ps := r) fun q hq => h q (List.mem_cons_of_mem _ hq)
    obtain ⟨h1, h2⟩ := h p (List.mem_cons_self ..)
    have e : (p :: r).map pairD = PyData.tuple [.int p.1, .int p.2] :: r.map pairD := rfl
    have w1 := weight_int h1
    have w2 := weight_int h2
    rw [e]
    refine ⟨?_, ?_, ?_, ?_, ?_⟩
    · simp only [PyData.leavesShortAll, PyData.leavesShort, g1, Bool.and_true]
      simp [shown_int40 h1, shown_int40 h2]
    · simp only [PyData.weightAll]
      rw [show (PyData.tuple [.int p.1, .int p.2]).weight = PyData.weightAll [.int p.1, .int p.2] by simp only [PyData.weight]]
      simp only [PyData.weightAll, List.length_cons]
      omega
    · simp only [PyData.showableAll, g3, Bool.and_true]
      rw [show (PyData.tuple [.int p.1, .int p.2]).showable = PyData.showableAll [.int p.1, .int p.2] by simp only [PyData.showable]]
      simp only [PyData.showableAll, showable_int h1, showable_int h2]
      rfl
    · simp [PyData.hasDictAll, PyData.hasDict, g4]
    · simp only [PyData.depthAll, PyData.depth]
      omega
theorem show_ints : ∀ {ns : List Int}, (∀ n ∈ ns, n.natAbs < 10 ^ 39) → PyData.leavesShortAll 40 (ns.map PyData.int) = true ∧ PyData.weightAll (ns.map PyData.int) ≤ 150 * ns.length ∧ PyData.showableAll (ns.map PyData.int) = true ∧ PyData.hasDictAll (ns.map PyData.int) = false ∧ PyData.depthAll (ns.map PyData.int) ≤ 1
  | [], _ => by simp [PyData.leavesShortAll, PyData.weightAll, PyData.showableAll, PyData.hasDictAll, PyData.depthAll]
  | n :: r, h => by
    obtain ⟨g1, g2, g3, g4, g5⟩ := show_ints (ns := r) fun q hq => h q (List.mem_cons_of_mem _ hq)
    have h1 := h n (List.mem_cons_self ..)
    have w1 := weight_int h1
    have e : (n :: r).map PyData.int = PyData.int n :: r.map PyData.int := rfl
    rw [e]
    refine ⟨?_, ?_, ?_, ?_, ?_⟩
    · simp only [PyData.leavesShortAll, PyData.leavesShort, g1, Bool.and_true]
      simp [shown_int40 h1]
    · simp only [PyData.weightAll, List.length_cons]
      omega
    · simp only [PyData.showableAll, g3, Bool.and_true, showable_int h1]
    · simp [PyData.hasDictAll, PyData.hasDict, g4]
    · simp only [PyData.depthAll, PyData.depth]
      omega
def sqD (k : Bool) (ds : List PyData) : PyData := if k then .list ds else .tuple ds
structure ShwD (d : PyData) : Prop where
  s : d.showable = true
  h : d.hasDict = false
  p : d.depth ≤ 8
  l : d.shown.length ≤ sizeLine
def hd2D (k j : Bool) (rs gs : List (Int × Int)) : PyData := .tuple [sqD k (rs.map pairD), sqD j (gs.map pairD)]
theorem show_hd2 {rs gs : List (Int × Int)} (k j : Bool) (h : Small39 rs) (h' : Small39 gs) (hl : rs.length ≤ 24) (hl' : gs.length ≤ 24) : ShwD (hd2D k j rs gs) := by
  obtain ⟨g1, g2, g3, g4, g5⟩ := show_prs h
  obtain ⟨k1, k2, k3, k4, k5⟩ := show_prs h'
  have z := PyData.shown_le 40 (by decide) (hd2D k j rs gs) (by cases k <;> cases j <;> simp [hd2D, sqD, PyData.leavesShort, PyData.leavesShortAll, g1, k1])
  have w : (hd2D k j rs gs).weight ≤ 20000 := by
    cases k <;> cases j <;> simp only [hd2D, sqD, PyData.weight, PyData.weightAll, if_true, Bool.false_eq_true, if_false] <;> omega
  refine ⟨?_, ?_, ?_, Nat.le_trans z (Nat.le_trans (Nat.add_le_add_right (Nat.mul_le_mul_left 42 w) 40) (by decide))⟩
  · cases k <;> cases j <;> simp [hd2D, sqD, PyData.showable, PyData.showableAll, g3, k3]
  · cases k <;> cases j <;> simp [hd2D, sqD, PyData.hasDict, PyData.hasDictAll, g4, k4]
  · cases k <;> cases j <;> simp only [hd2D, sqD, PyData.depth, PyData.depthAll, if_true, Bool.false_eq_true, if_false] <;> omega
def blD (i : Int) : PyData := .tuple [.str "blind", .int i]
def saD (ns ap : List Int) : PyData := .tuple [.str "samples", .list (ns.map .int), .list (ap.map .int)]
theorem sh_bl : (PyData.str "blind").shown.length ≤ 40 := by decide +kernel
theorem sh_sa : (PyData.str "samples").shown.length ≤ 40 := by decide +kernel
theorem w_bl : (PyData.str "blind").weight ≤ 131 := by decide +kernel
theorem w_sa : (PyData.str "samples").weight ≤ 131 := by decide +kernel
theorem s_bl : (PyData.str "blind").showable = true := by decide +kernel
theorem s_sa : (PyData.str "samples").showable = true := by decide +kernel
theorem sl_bl : PyData.leavesShort 40 (.str "blind") = true := by decide +kernel
theorem sl_sa : PyData.leavesShort 40 (.str "samples") = true := by decide +kernel
theorem sl_int {i : Int} (h : i.natAbs < 10 ^ 39) : PyData.leavesShort 40 (.int i) = true := by simp [PyData.leavesShort, shown_int40 h]
theorem show_bl {i : Int} (h : i.natAbs < 10 ^ 39) : ShwD (blD i) := by
  have wc := weight_int h
  have z := PyData.shown_le 40 (by decide) (blD i) (by rw [blD, PyData.leavesShort]; simp only [PyData.leavesShortAll, sl_bl, sl_int h]; rfl)
  have w : (blD i).weight ≤ 20000 := by
    have e2 : (blD i).weight = PyData.weightAll [.str "blind", .int i] := by simp only [blD, PyData.weight]
    have := w_bl
    rw [e2]
    simp only [PyData.weightAll]
    omega
  refine ⟨?_, ?_, ?_, Nat.le_trans z (Nat.le_trans (Nat.add_le_add_right (Nat.mul_le_mul_left 42 w) 40) (by decide))⟩
  · rw [blD, PyData.showable]
    simp only [PyData.showableAll, s_bl, showable_int h]
    rfl
  · simp [blD, PyData.hasDict, PyData.hasDictAll]
  · simp only [blD, PyData.depth, PyData.depthAll]
    omega
theorem show_sa {ns ap : List Int} (h : ∀ n ∈ ns, n.natAbs < 10 ^ 39) (h' : ∀ n ∈ ap, n.natAbs < 10 ^ 39) (hl : ns.length ≤ 40) (hl' : ap.length ≤ 40) : ShwD (saD ns ap) := by
  obtain ⟨g1, g2, g3, g4, g5⟩ := show_ints h
  obtain ⟨k1, k2, k3, k4, k5⟩ := show_ints h'
  have z := PyData.shown_le 40 (by decide) (saD ns ap) (by
    have e : ∀ l : List PyData, PyData.leavesShort 40 (PyData.list l) = PyData.leavesShortAll 40 l := fun l => by simp only [PyData.leavesShort]
    rw [saD, PyData.leavesShort]; simp only [PyData.leavesShortAll, sl_sa, e, g1, k1]; rfl)
  have w : (saD ns ap).weight ≤ 20000 := by
    have e : ∀ l : List PyData, (PyData.list l).weight = PyData.weightAll l := fun l => by simp only [PyData.weight]
    have e2 : (saD ns ap).weight = PyData.weightAll [.str "samples", .list (ns.map .int), .list (ap.map .int)] := by simp only [saD, PyData.weight]
    have := w_sa
    rw [e2]
    simp only [PyData.weightAll, e]
    omega
  refine ⟨?_, ?_, ?_, Nat.le_trans z (Nat.le_trans (Nat.add_le_add_right (Nat.mul_le_mul_left 42 w) 40) (by decide))⟩
  · have e : ∀ l : List PyData, (PyData.list l).showable = PyData.showableAll l := fun l => by simp only [PyData.showable]
    rw [saD, PyData.showable]
    simp only [PyData.showableAll, s_sa, e, g3, k3]
    rfl
  · simp [saD, PyData.hasDict, PyData.hasDictAll, g4, k4]
  · simp only [saD, PyData.depth, PyData.depthAll]
    omega
/-- of that kind -/
def KindA (H : Hp) (a : Addr) (k : Bool) (xs : List V) : Prop := H a = some (if k then .lst xs else .tup xs)
theorem SqH.kind {H : Hp} {a : Addr} {xs : List V} (h : SqH H a xs) : ∃ k, KindA H a k xs := h.elim (fun e => ⟨true, e⟩) (fun e => ⟨false, e⟩)
theorem KindA.noTab {H H' : Hp} {a : Addr} {k : Bool} {xs : List V} (h : KindA H a k xs) (n : GX.NoTab H H') : KindA H' a k xs := by
  cases k with
  | true => exact n.lst h
  | false => exact n.tup h
theorem KindA.dp {K : PySem.W.Frag} {H : Hp} {a : Addr} {k : Bool} {xs : List V} {ds : List PyData} (h : KindA H a k xs) (d : DpAll K H xs ds) : Dp K H (.ref a) (sqD k ds) := by
  cases k with
  | true => exact .lst (SqL.of h) d
  | false => exact .tup (.inl (.inl h)) d
theorem dp_hd2 {K : PySem.W.Frag} {H : Hp} {h a b : Addr} {k j : Bool} {rs gs : List (Int × Int)} {us ws : List V} (e : H h = some (.tup [.ref a, .ref b])) (ka : KindA H a k us) (kb : KindA H b j ws) (pr : Prs H us rs) (pw : Prs H ws gs) : Dp K H (.ref h) (hd2D k j rs gs) :=
  .tup (.inl (.inl e)) (.cons (ka.dp (dp_prs pr)) (.cons (kb.dp (dp_prs pw)) .nil))
theorem rStrD.of {K : PySem.W.Frag} {H : Hp} {a : Addr} {d : PyData} {Q : VK} (h : Dp K H (.ref a) d) (s : ShwD d) (q : Q (.str d.shown) H) : rStrD K [.ref a] H Q := ⟨a, d, rfl, h, s.s, s.h, s.p, s.l, q⟩
/-- what is told, as it stands and as data -/
def ToldL (H0 H : Hp) (T : Addr) (rs gs : List (Int × Int)) (d : PyData) : Prop := (∃ (i : Nat) (r : Int × Int), H T = some (.tup [.str "blind", .int (i : Int)]) ∧ rs[i]? = some r ∧ allGB gs r = true ∧ (∀ (j : Nat) r', j < i → rs[j]? = some r' → allGB gs r' = false) ∧ d = blD i) ∨
  ∃ (N A : Addr) (ns ap : List Int), H T = some (.tup [.str "samples", .ref N, .ref A]) ∧ H N = some (.lst (ns.map V.int)) ∧ H A = some (.lst (ap.map V.int)) ∧ N ≠ A ∧ H0 N = none ∧ H0 A = none ∧ (∀ r ∈ rs, allGB gs r = false) ∧ LeastT rs gs ns ap ∧ d = saD ns ap
theorem ToldL.uniq {H0 H H1 H2 : Hp} {T T' : Addr} {rs gs : List (Int × Int)} {d d' : PyData} (h : ToldL H0 H T rs gs d) (h' : ToldL H1 H2 T' rs gs d') : d = d' := by
  rcases h with ⟨i, r, _, e1, e2, e3, rfl⟩ | ⟨_, _, ns, ap, _, _, _, _, _, _, a1, a2, rfl⟩ <;> rcases h' with ⟨i', r', _, f1, f2, f3, rfl⟩ | ⟨_, _, ns', ap', _, _, _, _, _, _, b1, b2, rfl⟩
  · have : i = i' := by
      rcases Nat.lt_trichotomy i i' with z | z | z
      · rw [f3 i r z e1] at e2; cases e2
      · exact z
      · rw [e3 i' r' z f1] at f2; cases f2
    rw [this]
  · rw [b1 r (List.mem_of_getElem? e1)] at e2; cases e2
  · rw [a1 r' (List.mem_of_getElem? f1)] at f2; cases f2
  · obtain ⟨u, v⟩ := a2.uniq b2
    rw [u, v]
theorem ToldL.noTab {H0 H H2 : Hp} {T : Addr} {rs gs : List (Int × Int)} {d : PyData} (h : ToldL H0 H T rs gs d) (n : GX.NoTab H H2) : ToldL H0 H2 T rs gs d :=
  h.elim (fun ⟨i, r, e, x⟩ => .inl ⟨i, r, n.tup e, x⟩) fun ⟨N, A, ns, ap, e, e1, e2, x⟩ => .inr ⟨N, A, ns, ap, n.tup e, n.lst e1, n.lst e2, x⟩
theorem ToldL.dp {K : PySem.W.Frag} {H0 H : Hp} {T : Addr} {rs gs : List (Int × Int)} {d : PyData} (h : ToldL H0 H T rs gs d) : Dp K H (.ref T) d := by
  rcases h with ⟨i, r, e, _, _, _, rfl⟩ | ⟨N, A, ns, ap, e, e1, e2, _, _, _, _, _, rfl⟩
  · exact .tup (.inl (.inl e)) (.cons (.str _) (.cons (.int _) .nil))
  · exact .tup (.inl (.inl e)) (.cons (.str _) (.cons (.lst (SqL.of e1) (dp_ints ns)) (.cons (.lst (SqL.of e2) (dp_ints ap)) .nil)))
theorem SampT.len2 {rs gs : List (Int × Int)} {ns ap : List Int} (h : SampT rs gs ns ap) : ap.length ≤ rs.length := by
  have e : ((List.range rs.length).map fun k : Nat => (k : Int)).length = rs.length := by rw [List.length_map, List.length_range]
  rw [← e]
  refine nodup_len (List.Pairwise.imp (fun h => Int.ne_of_lt h) h.ainc) fun x hx => ?_
  have := h.arng x hx
  exact List.mem_map.mpr ⟨x.toNat, List.mem_range.mpr (by omega), by omega⟩
theorem ToldL.a {H0 H : Hp} {T : Addr} {rs gs : List (Int × Int)} {d : PyData} (h : ToldL H0 H T rs gs d) (hr : ∀ r ∈ rs, 0 ≤ r.1) (hl : rs.length ≤ 700) : ToldA H T rs gs := by
  rcases h with ⟨i, r, e, e1, e2, e3, _⟩ | ⟨N, A, ns, ap, e, e1, e2, _, _, _, _, hT, _⟩
  · exact .inl ⟨i, r, e, e1, e2, e3⟩
  · have s := hT.samp
    refine .inr ⟨N, A, ns, ap, e, e1, e2, s, fun x hx => ?_, Nat.le_trans s.len2 hl⟩
    obtain ⟨_, r, hr', h1, _⟩ := s.free x hx
    have := hr r hr'
    omega
theorem ToldL.small {H0 H : Hp} {T : Addr} {rs gs : List (Int × Int)} {d : PyData} (h : ToldL H0 H T rs gs d) (hr : ∀ r ∈ rs, 0 ≤ r.1 ∧ r.2 < 10 ^ 39) (hl : rs.length ≤ 24) : ShwD d := by
  rcases h with ⟨i, r, e, e1, e2, e3, rfl⟩ | ⟨N, A, ns, ap, e, e1, e2, _, _, _, _, hT, rfl⟩
  · have := (List.getElem?_eq_some_iff.mp e1).1
    exact show_bl (by omega)
  · have s := hT.samp
    have l2 := s.len2
    refine show_sa (fun n hn => ?_) (fun n hn => ?_) (by rw [← s.len]; omega) (by omega)
    · obtain ⟨_, r, hr', h1, h2⟩ := s.free n hn
      have := hr r hr'
      omega
    · have := s.arng n hn
      omega
theorem spLeast.of {K : PySem.W.Frag} {Pt a b : Addr} {rs gs : List (Int × Int)} {H : Hp} {Q : VK} {E : XK} (hA : LsQ H a rs) (hB : LsQ H b gs) (h1 : rs.length ≤ 700) (h2 : gs.length ≤ 700) (h3 : ∀ r ∈ rs, r.1 ≤ r.2) (h4 : Ris 0 gs) (hT : LamX.TabS H Pt qL)
    (q : ∀ H2 T d, TbL Pt qL H H2 → ButAt Pt H H2 → H T = none → ToldL H H2 T rs gs d → Q (.ref T) H2) : spLeast K Pt [.ref a, .ref b] H Q E :=
  ⟨a, b, rs, gs, rfl, hA, hB, h1, h2, h3, h4, hT, fun i r er hg hf H2 T tb bt nT eT => q H2 T _ tb bt nT (.inl ⟨i, r, eT, er, hg, hf, rfl⟩), fun hn H2 T N A ns ap tb bt nT eT eN eA ne nN nA hL => q H2 T _ tb bt nT (.inr ⟨N, A, ns, ap, eT, eN, eA, ne, nN, nA, hn, hL, rfl⟩)⟩

open LamX
/-! ### told, shown, told again -/
/-- the lambda's table is known, of least_samples -/
structure LamL (Ms : GX.Mq) (Pl : Addr) : Prop where
  mem : (Pl, qL) ∈ Ms.ls
  one : ∀ l ∈ Ms.ls, l.1 = Pl → l.2 = qL
theorem but_noTab {P : Addr} {q : Str} {H H2 : Hp} (h : TabS H P q) (h2 : TabS H2 P q) (k : ButAt P H H2) : GX.NoTab H H2 := by
  obtain ⟨ps, e, _⟩ := h
  obtain ⟨ps2, e2, _⟩ := h2
  exact GX.But.noTab k e e2
/-- least_samples asked: the tables, what stands, what is told -/
theorem spLeast.ask {K : PySem.W.Frag} {Ms : GX.Mq} {Xs : List Addr} {Pl a b : Addr} {rs gs : List (Int × Int)} {H : Hp} {Q : VK} {E : XK} (hA : LsQ H a rs) (hB : LsQ H b gs) (h1 : rs.length ≤ 700) (h2 : gs.length ≤ 700) (h3 : ∀ r ∈ rs, r.1 ≤ r.2) (h4 : Ris 0 gs) (hT : GX.TQ Ms Xs H) (hL : LamL Ms Pl)
    (q : ∀ H2 T d, GX.NoTab H H2 → GX.TQ Ms Xs H2 → H T = none → ToldL H H2 T rs gs d → Q (.ref T) H2) : spLeast K Pl [.ref a, .ref b] H Q E :=
  have tl := (hT.lam _ hL.mem).2.2
  spLeast.of hA hB h1 h2 h3 h4 tl fun H2 T d tb bt nT ht => q H2 T d (but_noTab tl tb.1 bt) (hT.lamS hL.mem hL.one tb.1 bt) nT ht
theorem LsA.noTab {H H' : Hp} {a : Addr} {rs : List (Int × Int)} (h : LsA H a rs) (s : GX.NoTab H H') : LsA H' a rs := by
  obtain ⟨us, e, p⟩ := h
  exact ⟨us, s.lst e, p.1, fun i r er => let ⟨x, h1, h2⟩ := p.2 i r er; ⟨x, h1, s.tup h2⟩⟩

/-! ### runs and a set gone drawn -/
def spCase : Sp := fun vs H Q _ => ∃ (d c : Addr) (t : Int), vs = [.ref d] ∧ StAt H d c t ∧ t < 2 ^ 57 ∧
  ∀ (T l r : Addr) rs gs t' H', H' T = some (.tup [.ref l, .ref r]) → LsA H' l rs → LsA H' r gs → 1 ≤ rs.length → rs.length ≤ 24 → gs.length ≤ 24 → (∀ r ∈ rs, 0 ≤ r.1 ∧ r.1 ≤ r.2 ∧ r.2 < 10 ^ 38) → (∀ g ∈ gs, g.2 < 10 ^ 38) → Ris 0 gs → l ≠ d ∧ l ≠ c → r ≠ d ∧ r ≠ c → t ≤ t' → t' ≤ t + 600 → StAt H' d c t' → Kp d c H H' → Q (.ref T) H'
theorem ris_moved {m s : Int} (hm : 1 ≤ m) (hs : 0 ≤ s) : ∀ {lo : Int} {gs : List (Int × Int)}, Ris lo gs → Ris (lo * m + s) (movedF m s gs)
  | _, [], _ => True.intro
  | lo, g :: gs, h => by
    have ih := ris_moved hm hs h.2.2
    have a1 := Int.mul_le_mul_of_nonneg_right h.1 (by omega : 0 ≤ m)
    have a2 := Int.mul_le_mul_of_nonneg_right h.2.1 (by omega : 0 ≤ m)
    refine ⟨?_, ?_, ih.mono ?_⟩
    · show lo * m + s ≤ g.1 * m + s
      omega
    · show g.1 * m + s ≤ g.2 * m + m - 1 + s
      omega
    · show g.2 * m + m - 1 + s + 2 ≤ (g.2 + 2) * m + s
      rw [Int.add_mul]
      omega
theorem moved_ok {m s B C : Int} (hm : 1 ≤ m) (hs : 0 ≤ s) {p : Int × Int} (h0 : 0 ≤ p.1) (h1 : p.1 ≤ p.2) (h2 : p.2 ≤ B) (h3 : m ≤ C) : 0 ≤ p.1 * m + s ∧ p.1 * m + s ≤ p.2 * m + m - 1 + s ∧ p.2 * m + m - 1 + s < (B + 1) * C + s := by
  have a0 := Int.mul_nonneg h0 (by omega : 0 ≤ m)
  have a1 := Int.mul_le_mul_of_nonneg_right h1 (by omega : 0 ≤ m)
  have a2 := Int.mul_le_mul_of_nonneg_right (show p.2 + 1 ≤ B + 1 by omega) (by omega : 0 ≤ m)
  have a3 := Int.mul_le_mul_of_nonneg_left h3 (show 0 ≤ B + 1 by omega)
  rw [Int.add_mul] at a2
  omega
theorem Ris.nn : ∀ {lo : Int} {gs : List (Int × Int)}, Ris lo gs → 0 ≤ lo → ∀ g ∈ gs, 0 ≤ g.1 ∧ g.1 ≤ g.2 := fun h h0 g hg => by
  have := h.le g hg
  omega
theorem NoTabS.free {H H' : Hp} (s : Same H H') {p : Addr} (n : H' p = none) : H p = none := s.free n
abbrev sCase : Stmt := topS 33
theorem scCase : FnScope ["_law_state", "_law_most", "_law_many_here", "_law_runs_here", "_law_gone_here", "_law_wide", "_law_shift"] ["_law_state"] (defScope sCase) := ⟨rfl, rfl, rfl, by decide +kernel, rfl, by decide +kernel, by decide +kernel⟩
section
variable {K : PySem.W.Frag} {mg : Str → Option Value} {P : Program} {w : World} {base : Heap}
theorem ok_Case {f : Addr} {fd : FuncData} (F : Fun K "_law_case" "_law_case" sCase f fd) (C__law_take : Cal P w K mg base 1 "_law_take" ["_law_state", "_law_many_here"] spTake) (C__law_runs : Cal P w K mg base 2 "_law_runs" ["_law_state", "_law_many_here", "_law_most", "_law_wide"] spRuns) (C__law_gone : Cal P w K mg base 2 "_law_gone" ["_law_state", "_law_most", "_law_rare"] spGone) (C__law_great : Cal P w K mg base 2 "_law_great" ["_law_state"] spGreat) (C__law_moved : Cal P w K mg base 1 "_law_moved" ["_law_pairs", "_law_many_here", "_law_shift"] spMoved) : FnOk P w K mg base CX0 3 f fd ["_law_state"] spCase := by
  refine F.ok scCase (fun vs H Q E h => ?_) (fun cdv A outer s H vs Q E hr h => ?_)
  · obtain ⟨d, c, t, rfl, _⟩ := h
    rfl
  · obtain ⟨d, c, t, rfl, hS, ht, q⟩ := h
    refine ⟨_, pss_cons (ps_set (i := 1) scCase.nd rfl (.inl rfl) (pe_ix ix_list (pe_lst (pa_cons pe_int (pa_cons pe_int (pa_cons pe_int pa_nil)))) (pe_own C__law_take (hr.mono (show 1 ≤ 2 by decide)) (by rfl) (pa_cons (pv 0) (pa_cons pe_int pa_nil))) (fun _ _ => rfl)))
      (pss_cons (ps_set (i := 2) scCase.nd rfl (.inl rfl) (pe_ix ix_list (pe_lst (pa_cons pe_int (pa_cons (pe_op op_add pe_int (pe_own C__law_take (hr.mono (show 1 ≤ 2 by decide)) (by rfl) (pa_cons (pv 0) (pa_cons pe_int pa_nil)))) (pa_cons (pe_op op_add pe_int (pe_own C__law_take (hr.mono (show 1 ≤ 2 by decide)) (by rfl) (pa_cons (pv 0) (pa_cons pe_int pa_nil)))) pa_nil)))) (pe_own C__law_take (hr.mono (show 1 ≤ 2 by decide)) (by rfl) (pa_cons (pv 0) (pa_cons pe_int pa_nil))) (fun _ _ => rfl)))
      (pss_cons (ps_set (i := 3) scCase.nd rfl (.inl rfl) (pe_own C__law_runs hr (by rfl) (pa_cons (pv 0) (pa_cons (pv 2) (pa_cons (pv 1) (pa_cons (pe_ix ix_list (pe_lst (pa_cons pe_int (pa_cons pe_int (pa_cons pe_int pa_nil)))) (pe_own C__law_take (hr.mono (show 1 ≤ 2 by decide)) (by rfl) (pa_cons (pv 0) (pa_cons pe_int pa_nil))) (fun _ _ => rfl)) pa_nil))))))
      (pss_cons (ps_set (i := 4) scCase.nd rfl (.inl rfl) (pe_own C__law_gone hr (by rfl) (pa_cons (pv 0) (pa_cons (pv 1) (pa_cons (pe_ix ix_list (pe_lst (pa_cons pe_int (pa_cons pe_int (pa_cons pe_int (pa_cons pe_int pa_nil))))) (pe_own C__law_take (hr.mono (show 1 ≤ 2 by decide)) (by rfl) (pa_cons (pv 0) (pa_cons pe_int pa_nil))) (fun _ _ => rfl)) pa_nil)))))
      (pss_cons (ps_if (pt_cmpR op_eq (pe_own C__law_take (hr.mono (show 1 ≤ 2 by decide)) (by rfl) (pa_cons (pv 0) (pa_cons pe_int pa_nil))) pe_int (nomark _)) (pss_one (ps_ret (pe_tup (pa_cons (pv 3) (pa_cons (pv 4) pa_nil)))))
        pss_nil)
      (pss_cons (ps_par rfl scCase.nd (i := 5) (j := 6) rfl rfl (by decide) rfl rfl (pa_cons (pe_op op_add pe_int (pe_ix ix_list (pe_lst (pa_cons (pe_own C__law_take (hr.mono (show 1 ≤ 2 by decide)) (by rfl) (pa_cons (pv 0) (pa_cons pe_int pa_nil))) (pa_cons (pe_own C__law_great hr (by rfl) (pa_cons (pv 0) pa_nil)) pa_nil))) (pe_own C__law_take (hr.mono (show 1 ≤ 2 by decide)) (by rfl) (pa_cons (pv 0) (pa_cons pe_int pa_nil))) (fun _ _ => rfl))) (pa_cons (pe_own C__law_great hr (by rfl) (pa_cons (pv 0) pa_nil)) pa_nil)) (by rfl))
      (pss_one (ps_ret (pe_tup (pa_cons (pe_own C__law_moved (hr.mono (show 1 ≤ 2 by decide)) (by rfl) (pa_cons (pv 3) (pa_cons (pv 5) (pa_cons (pv 6) pa_nil)))) (pa_cons (pe_own C__law_moved (hr.mono (show 1 ≤ 2 by decide)) (by rfl) (pa_cons (pv 4) (pa_cons (pv 5) (pa_cons (pv 6) pa_nil)))) pa_nil)))))))))), ?_⟩
    refine ⟨(by show 3 ≤ sizeLine; decide), fun z nz => ?_⟩
    have sz := same_upd (o := .lst [.int 9, .int 30, .int 90]) nz
    have offz := hS.off nz
    refine ⟨_, rfl, d, c, t, 3, rfl, hS.same sz, by omega, by decide, by decide, fun a1 H1 a10 a11 hS1 k1 => ?_⟩
    have ez := k1 _ _ offz.1 offz.2 (upd_same (H := H) (a := z) (o := .lst [.int 9, .int 30, .int 90]))
    obtain ⟨v, ev, hv⟩ := pick_at (xs := [V.int 9, V.int 30, V.int 90]) (n := 3) rfl a10 (by omega)
    obtain ⟨mo, rfl, mo0, mo1⟩ : ∃ vi : Int, v = .int vi ∧ 9 ≤ vi ∧ vi ≤ 90 := by
      simp only [List.mem_cons, List.not_mem_nil, or_false] at hv
      rcases hv with rfl | rfl | rfl <;> exact ⟨_, rfl, by decide, by decide⟩
    refine ⟨z, _, _, _, rfl, rfl, SqL.of ez, ev, ?_⟩
    have k01 := (Kp.same d c sz).trans k1
    -- how many
    refine ⟨_, rfl, d, c, _, 24, rfl, hS1, by omega, by decide, by decide, fun a2 H2 a20 a21 hS2 k2 => ⟨1, a2, rfl, rfl, ?_⟩⟩
    refine ⟨_, rfl, d, c, _, 4, rfl, hS2, by omega, by decide, by decide, fun a3 H3 a30 a31 hS3 k3 => ⟨1, a3, rfl, rfl, (by show 3 ≤ sizeLine; decide), fun y ny => ?_⟩⟩
    have sy := same_upd (o := .lst [.int 24, .int (1 + a2), .int (1 + a3)]) ny
    have offy := hS3.off ny
    refine ⟨_, rfl, d, c, _, 3, rfl, hS3.same sy, by omega, by decide, by decide, fun a4 H4 a40 a41 hS4 k4 => ?_⟩
    have ey := k4 _ _ offy.1 offy.2 (upd_same (H := H3) (a := y) (o := .lst [.int 24, .int (1 + a2), .int (1 + a3)]))
    obtain ⟨v, ev, hv⟩ := pick_at (xs := [V.int 24, V.int (1 + a2), V.int (1 + a3)]) (n := 3) rfl a40 (by omega)
    obtain ⟨cn, rfl, cn0, cn1⟩ : ∃ vi : Int, v = .int vi ∧ 1 ≤ vi ∧ vi ≤ 24 := by
      simp only [List.mem_cons, List.not_mem_nil, or_false] at hv
      rcases hv with rfl | rfl | rfl
      · exact ⟨_, rfl, by omega, by omega⟩
      · exact ⟨_, rfl, by omega, by omega⟩
      · exact ⟨_, rfl, by omega, by omega⟩
    refine ⟨y, _, _, _, rfl, rfl, SqL.of ey, ev, ?_⟩
    have k04 := (((k01.trans k2).trans k3).trans (Kp.same d c sy)).trans k4
    -- runs
    refine ⟨_, rfl, _, rfl, _, rfl, (by show 3 ≤ sizeLine; decide), fun x nx => ?_⟩
    have sx := same_upd (o := .lst [.int 3, .int 9, .int 30]) nx
    have offx := hS4.off nx
    refine ⟨_, rfl, d, c, _, 3, rfl, hS4.same sx, by omega, by decide, by decide, fun a5 H5 a50 a51 hS5 k5 => ?_⟩
    have ex := k5 _ _ offx.1 offx.2 (upd_same (H := H4) (a := x) (o := .lst [.int 3, .int 9, .int 30]))
    obtain ⟨v, ev, hv⟩ := pick_at (xs := [V.int 3, V.int 9, V.int 30]) (n := 3) rfl a50 (by omega)
    obtain ⟨wd, rfl, wd0, wd1⟩ : ∃ vi : Int, v = .int vi ∧ 1 ≤ vi ∧ vi ≤ 40 := by
      simp only [List.mem_cons, List.not_mem_nil, or_false] at hv
      rcases hv with rfl | rfl | rfl <;> exact ⟨_, rfl, by decide, by decide⟩
    refine ⟨x, _, _, _, rfl, rfl, SqL.of ex, ev, d, c, _, cn, mo, wd, rfl, hS5, by omega, by omega, by omega, by omega, by omega, by omega, by omega, fun l rs H6 t6 nl eL hro hrl u0 u1 hS6 k6 => ?_⟩
    have offl := hS5.off nl
    have k06 := (k04.trans ((Kp.same d c sx).trans k5)).trans k6
    -- what is gone
    refine ⟨_, rfl, _, rfl, (by show 4 ≤ sizeLine; decide), fun w nw => ?_⟩
    have sw := same_upd (o := .lst [.int 1, .int 2, .int 3, .int 6]) nw
    have offw := hS6.off nw
    refine ⟨_, rfl, d, c, _, 4, rfl, hS6.same sw, by omega, by decide, by decide, fun a7 H7 a70 a71 hS7 k7 => ?_⟩
    have ew := k7 _ _ offw.1 offw.2 (upd_same (H := H6) (a := w) (o := .lst [.int 1, .int 2, .int 3, .int 6]))
    obtain ⟨v, ev, hv⟩ := pick_at (xs := [V.int 1, V.int 2, V.int 3, V.int 6]) (n := 4) rfl a70 (by omega)
    obtain ⟨ra, rfl, ra0, ra1⟩ : ∃ vi : Int, v = .int vi ∧ 1 ≤ vi ∧ vi ≤ 6 := by
      simp only [List.mem_cons, List.not_mem_nil, or_false] at hv
      rcases hv with rfl | rfl | rfl | rfl <;> exact ⟨_, rfl, by decide, by decide⟩
    refine ⟨w, _, _, _, rfl, rfl, SqL.of ew, ev, d, c, _, mo, ra, rfl, hS7, by omega, by omega, by omega, fun r gs H8 t8 nr eR hrg hgm hgl v0 v1 hS8 k8 => ?_⟩
    have offr := hS7.off nr
    have k68 := ((Kp.same d c sw).trans k7).trans k8
    have k08 := k06.trans k68
    have eL8 : LsA H8 l rs := ((eL.same sw).kp (hS6.same sw) k7 offl).kp hS7 k8 offl
    refine ⟨_, rfl, d, c, _, 2, rfl, hS8, by omega, by decide, by decide, fun a9 H9 a90 a91 hS9 k9 => ?_⟩
    have eL9 := eL8.kp hS8 k9 offl
    have eR9 := eR.kp hS8 k9 offr
    have k09 := k08.trans k9
    have hrb : ∀ q ∈ rs, 0 ≤ q.1 ∧ q.1 ≤ q.2 ∧ q.2 ≤ 90 := fun q hq => by have := hro q hq; omega
    have hgb : ∀ g ∈ gs, 0 ≤ g.1 ∧ g.1 ≤ g.2 ∧ g.2 ≤ 90 := fun g hg => by have := hgm g hg; have := hrg.nn (by decide) g hg; omega
    refine ⟨rfl, _, rfl, ite2 (fun c1 => ?_) (fun c1 => ?_)⟩
    · refine ⟨_, rfl, _, rfl, (by show 2 ≤ sizeLine; decide), fun T nT => ?_⟩
      have sT := same_upd (o := .tup [.ref l, .ref r]) nT
      exact q T l r rs gs _ _ upd_same (eL9.same sT) (eR9.same sT) (by omega) (by omega) (by omega) (fun r' hr' => by have := hrb r' hr'; omega) (fun g hg => by have := hgb g hg; omega) hrg offl offr (by omega) (by omega) (hS9.same sT) (k09.trans (Kp.same d c sT))
    · refine ⟨_, rfl, d, c, _, 9, rfl, hS9, by omega, by decide, by decide, fun b1 G1 b10 b11 hG1 g1 => ?_⟩
      refine ⟨_, rfl, d, c, _, rfl, hG1, by omega, fun b2 G2 b20 b21 hG2 g2 => ⟨(by show 2 ≤ sizeLine; decide), fun y2 ny2 => ?_⟩⟩
      have sy2 := same_upd (o := .lst [.int b1, .int b2]) ny2
      have offy2 := hG2.off ny2
      refine ⟨_, rfl, d, c, _, 2, rfl, hG2.same sy2, by omega, by decide, by decide, fun b3 G3 b30 b31 hG3 g3 => ?_⟩
      have ey2 := g3 _ _ offy2.1 offy2.2 (upd_same (H := G2) (a := y2) (o := .lst [.int b1, .int b2]))
      obtain ⟨v, ev, hv⟩ := pick_at (xs := [V.int b1, V.int b2]) (n := 2) rfl b30 (by omega)
      obtain ⟨m, rfl, m0, m1⟩ : ∃ vi : Int, v = .int vi ∧ 0 ≤ vi ∧ vi < 10 ^ 30 := by
        simp only [List.mem_cons, List.not_mem_nil, or_false] at hv
        rcases hv with rfl | rfl
        · exact ⟨_, rfl, by omega, by omega⟩
        · exact ⟨_, rfl, by omega, by omega⟩
      refine ⟨y2, _, _, _, rfl, rfl, SqL.of ey2, ev, 1, m, rfl, rfl, ?_⟩
      refine ⟨_, rfl, d, c, _, rfl, hG3, by omega, fun sh G4 sh0 sh1 hG4 g4 => ⟨_, _, rfl, ?_⟩⟩
      have kG := ((g1.trans g2).trans ((Kp.same d c sy2).trans g3)).trans g4
      have eL4 := (((eL9.kp hS9 g1 offl).kp hG1 g2 offl).same sy2 |>.kp (hG2.same sy2) g3 offl).kp hG3 g4 offl
      have eR4 := (((eR9.kp hS9 g1 offr).kp hG1 g2 offr).same sy2 |>.kp (hG2.same sy2) g3 offr).kp hG3 g4 offr
      refine ⟨_, rfl, _, rfl, _, rfl, l, 1 + m, sh, rs, rfl, eL4, by omega, by omega, by omega, by omega, by omega, fun p hp => by have := hrb p hp; omega, fun l2 G5 nl2 hl2 s5 => ?_⟩
      refine ⟨_, rfl, _, rfl, _, rfl, r, 1 + m, sh, gs, rfl, eR4.same s5, by omega, by omega, by omega, by omega, by omega, fun p hp => by have := hgb p hp; omega, fun r2 G6 nr2 hr2 s6 => ⟨(by show 2 ≤ sizeLine; decide), fun T nT => ?_⟩⟩
      have sT := same_upd (o := .tup [.ref l2, .ref r2]) nT
      have s46 := s5.trans s6
      have offl2 := hG4.off nl2
      have offr2 := hG4.off ((NoTabS.free s5) nr2)
      refine q T l2 r2 (movedF (1 + m) sh rs) (movedF (1 + m) sh gs) _ _ upd_same ((hl2.same s6).same sT) (hr2.same sT) (by unfold movedF; rw [List.length_map]; omega) (by unfold movedF; rw [List.length_map]; omega) (by unfold movedF; rw [List.length_map]; omega) (fun r' hr' => ?_) (fun g hg => ?_) ?_ offl2 offr2 (by omega) (by omega) (hG4.same (s46.trans sT)) ((k09.trans kG).trans (Kp.same d c (s46.trans sT)))
      · obtain ⟨p, hp, rfl⟩ := List.mem_map.mp hr'
        obtain ⟨p1, p2, p3⟩ := hrb p hp
        have := moved_ok (m := 1 + m) (s := sh) (B := 90) (C := 10 ^ 30) (by omega) sh0 p1 p2 p3 (by omega)
        refine ⟨this.1, this.2.1, Int.lt_of_lt_of_le this.2.2 (by omega)⟩
      · obtain ⟨p, hp, rfl⟩ := List.mem_map.mp hg
        obtain ⟨p1, p2, p3⟩ := hgb p hp
        have := moved_ok (m := 1 + m) (s := sh) (B := 90) (C := 10 ^ 30) (by omega) sh0 p1 p2 p3 (by omega)
        exact Int.lt_of_lt_of_le this.2.2 (by omega)
      · refine (ris_moved (by omega) sh0 hrg).mono ?_
        omega
end

/-! ### what stands -/
theorem StAt.noTab {H H' : Hp} {d c : Addr} {t : Int} (S : StAt H d c t) (n : GX.NoTab H H') : StAt H' d c t := by
  obtain ⟨cs, ec, r⟩ := S.cells
  exact ⟨n.keep _ _ S.dict (fun _ z => nomatch z), ⟨cs, n.lst ec, r⟩, S.pos⟩
theorem tq_kp {Ms : GX.Mq} {Xs : List Addr} {H H' : Hp} {d c : Addr} {t : Int} (h : GX.TQ Ms Xs H) (S : StAt H d c t) (k : Kp d c H H') : GX.TQ Ms Xs H' := by
  obtain ⟨cs, ec, r⟩ := S.cells
  exact h.keep (fun b ps hb => k _ _ (ne_of hb S.dict (fun z => nomatch z)) (ne_of hb ec (fun z => nomatch z)) hb)
    (fun b c' P hb => k _ _ (ne_of hb S.dict (fun z => by unfold GX.CodeG at z; cases z)) (ne_of hb ec (fun z => by unfold GX.CodeG at z; cases z)) hb)
    (fun b c' q hb => k _ _ (ne_of hb S.dict (fun z => by unfold LamX.CodeO at z; cases z)) (ne_of hb ec (fun z => by unfold LamX.CodeO at z; cases z)) hb)

/-! ### how many samples, otherwise put -/
structure MinHit (rs gs : List (Int × Int)) (n : Nat) : Prop where
  some : ∃ row : List Int, row.length = n ∧ (∀ e ∈ row, ¬ InS gs e) ∧ hitsAll rs row
  low : ∀ row : List Int, (∀ e ∈ row, ¬ InS gs e) → hitsAll rs row → n ≤ row.length
theorem SampOk.min {rs gs : List (Int × Int)} {ns : List Int} (h : SampOk rs gs ns) : MinHit rs gs ns.length := ⟨⟨ns, rfl, fun e he => (h.free e he).1, h.hit⟩, h.low⟩
/-- blind: below 0, by the first blind run; else so many -/
def ManyV (rs gs : List (Int × Int)) (v : Int) : Prop := (∃ (i : Nat) (r : Int × Int), rs[i]? = some r ∧ allGB gs r = true ∧ (∀ (j : Nat) r', j < i → rs[j]? = some r' → allGB gs r' = false) ∧ v = -1 - (i : Int)) ∨
  ((∀ r ∈ rs, allGB gs r = false) ∧ ∃ n : Nat, v = (n : Int) ∧ MinHit rs gs n)
theorem ToldL.many {H0 H : Hp} {T : Addr} {rs gs : List (Int × Int)} {d : PyData} (h : ToldL H0 H T rs gs d) : (∃ i : Nat, H T = some (.tup [.str "blind", .int (i : Int)]) ∧ ManyV rs gs (-1 - (i : Int))) ∨ ∃ (N A : Addr) (ns : List Int), H T = some (.tup [.str "samples", .ref N, .ref A]) ∧ H N = some (.lst (ns.map V.int)) ∧ ManyV rs gs (ns.length : Int) := by
  rcases h with ⟨i, r, e, e1, e2, e3, _⟩ | ⟨N, A, ns, ap, e, eN, eA, _, _, _, hb, hL, _⟩
  · exact .inl ⟨i, e, .inl ⟨i, r, e1, e2, e3, rfl⟩⟩
  · exact .inr ⟨N, A, ns, e, eN, .inr ⟨hb, _, rfl, hL.samp.toSampOk.min⟩⟩
theorem ManyV.neg {rs gs : List (Int × Int)} {v : Int} (h : ManyV rs gs v) (hv : v < 0) : ∃ (i : Nat) (r : Int × Int), rs[i]? = some r ∧ allGB gs r = true ∧ (∀ (j : Nat) r', j < i → rs[j]? = some r' → allGB gs r' = false) ∧ v = -1 - (i : Int) := h.elim id fun ⟨_, n, e, _⟩ => by omega
theorem ManyV.pos {rs gs : List (Int × Int)} {v : Int} (h : ManyV rs gs v) (hv : 0 ≤ v) : (∀ r ∈ rs, allGB gs r = false) ∧ ∃ n : Nat, v = (n : Int) ∧ MinHit rs gs n := h.elim (fun ⟨_, _, _, _, _, e⟩ => by omega) id
theorem first_uniq {f : Int × Int → Bool} {g : Int × Int → Bool} {rs rs' : List (Int × Int)} {i i' : Nat} {r r' : Int × Int} (e : rs[i]? = some r) (b : f r = true) (h : ∀ (j : Nat) q, j < i → rs[j]? = some q → f q = false) (e' : rs'[i']? = some r') (b' : g r' = true) (h' : ∀ (j : Nat) q, j < i' → rs'[j]? = some q → g q = false)
    (hl : rs'.length = rs.length) (hfg : ∀ (j : Nat) q q', rs[j]? = some q → rs'[j]? = some q' → (f q = true ↔ g q' = true)) : i = i' := by
  have l1 := (List.getElem?_eq_some_iff.mp e).1
  have l2 := (List.getElem?_eq_some_iff.mp e').1
  rcases Nat.lt_trichotomy i i' with z | z | z
  · have e2 : rs'[i]? = some (rs'[i]'(by omega)) := List.getElem?_eq_getElem _
    have := h' i _ z e2
    rw [(hfg i _ _ e e2).mp b] at this
    cases this
  · exact z
  · have e2 : rs[i']? = some (rs[i']'(by omega)) := List.getElem?_eq_getElem _
    have := h i' _ z e2
    rw [(hfg i' _ _ e2 e').mpr b'] at this
    cases this
/-- one for one, by φ there and ψ back -/
structure Corr (rs gs rs' gs' : List (Int × Int)) (φ ψ : Int → Int) : Prop where
  len : rs'.length = rs.length
  fwd : ∀ (i : Nat) r r', rs[i]? = some r → rs'[i]? = some r' → ∀ e, r.1 ≤ e → e ≤ r.2 → r'.1 ≤ φ e ∧ φ e ≤ r'.2
  bwd : ∀ (i : Nat) r r', rs[i]? = some r → rs'[i]? = some r' → ∀ e, r'.1 ≤ e → e ≤ r'.2 → r.1 ≤ ψ e ∧ ψ e ≤ r.2
  gf : ∀ e, ¬ InS gs e → ¬ InS gs' (φ e)
  gb : ∀ e, ¬ InS gs' e → ¬ InS gs (ψ e)
theorem Corr.symm {rs gs rs' gs' : List (Int × Int)} {φ ψ : Int → Int} (c : Corr rs gs rs' gs' φ ψ) : Corr rs' gs' rs gs ψ φ := ⟨c.len.symm, fun i r r' e e' => c.bwd i r' r e' e, fun i r r' e e' => c.fwd i r' r e' e, c.gb, c.gf⟩
theorem Corr.all {rs gs rs' gs' : List (Int × Int)} {φ ψ : Int → Int} (c : Corr rs gs rs' gs' φ ψ) {i : Nat} {r r' : Int × Int} (e : rs[i]? = some r) (e' : rs'[i]? = some r') (h : allGB gs' r' = true) : allGB gs r = true := by
  rw [allGB_iff] at h ⊢
  intro n h1 h2
  refine Classical.byContradiction fun z => ?_
  obtain ⟨f1, f2⟩ := c.fwd i r r' e e' n h1 h2
  exact c.gf n z (h _ f1 f2)
theorem Corr.low {rs gs rs' gs' : List (Int × Int)} {φ ψ : Int → Int} (c : Corr rs gs rs' gs' φ ψ) {n n' : Nat} (h : MinHit rs gs n) (h' : MinHit rs' gs' n') : n' ≤ n := by
  obtain ⟨row, hl, hf, hh⟩ := h.some
  rw [← hl, ← List.length_map φ]
  refine h'.low _ (fun e he => ?_) fun r' hr' => ?_
  · obtain ⟨x, hx, rfl⟩ := List.mem_map.mp he
    exact c.gf x (hf x hx)
  · obtain ⟨i, hi⟩ := List.getElem?_of_mem hr'
    have lt : i < rs.length := by
      have := (List.getElem?_eq_some_iff.mp hi).1
      have := c.len
      omega
    obtain ⟨e, he, h1, h2⟩ := hh _ (List.getElem_mem lt)
    exact ⟨φ e, List.mem_map_of_mem he, c.fwd i _ r' (List.getElem?_eq_getElem lt) hi e h1 h2⟩
theorem Corr.many {rs gs rs' gs' : List (Int × Int)} {φ ψ : Int → Int} (c : Corr rs gs rs' gs' φ ψ) {v v' : Int} (h : ManyV rs gs v) (h' : ManyV rs' gs' v') : v' = v := by
  rcases h with ⟨i, r, e1, e2, e3, rfl⟩ | ⟨a1, n, rfl, a2⟩ <;> rcases h' with ⟨i', r', f1, f2, f3, rfl⟩ | ⟨b1, n', rfl, b2⟩
  · rw [first_uniq (f := allGB gs) (g := allGB gs') e1 e2 e3 f1 f2 f3 c.len fun j q q' g g' => ⟨c.symm.all g' g, c.all g g'⟩]
  · have lt : i < rs'.length := by
      have := (List.getElem?_eq_some_iff.mp e1).1
      have := c.len
      omega
    have := c.symm.all (List.getElem?_eq_getElem lt) e1 e2
    rw [b1 _ (List.getElem_mem lt)] at this
    cases this
  · have lt : i' < rs.length := by
      have := (List.getElem?_eq_some_iff.mp f1).1
      have := c.len
      omega
    have := c.all (List.getElem?_eq_getElem lt) f1 f2
    rw [a1 _ (List.getElem_mem lt)] at this
    cases this
  · have := c.low a2 b2
    have := c.symm.low b2 a2
    omega
/-! ### turned about -/
def turnP (top : Int) (p : Int × Int) : Int × Int := (top - p.2, top - p.1)
theorem turn_ris {top : Int} : ∀ {lo : Int} {gs : List (Int × Int)}, Ris lo gs → (∀ g ∈ gs, g.2 ≤ top) → Ris 0 (gs.map (turnP top)).reverse
  | _, [], _, _ => True.intro
  | lo, g :: gs, h, hm => by
    rw [List.map_cons, List.reverse_cons]
    have g0 := hm g (List.mem_cons_self ..)
    have g12 := h.2.1
    refine Ris.snoc (turn_ris h.2.2 fun q hq => hm q (List.mem_cons_of_mem _ hq)) (by show 0 ≤ top - g.2; omega) (fun p hp => ?_) (by show top - g.2 ≤ top - g.1; omega)
    obtain ⟨q, hq, rfl⟩ := List.mem_map.mp (List.mem_reverse.mp hp)
    have := h.2.2.le q hq
    show top - q.1 + 2 ≤ top - g.2
    omega
theorem turn_in {top e : Int} {gs : List (Int × Int)} : InS (gs.map (turnP top)).reverse (top - e) ↔ InS gs e := by
  constructor
  · rintro ⟨p, hp, h1, h2⟩
    obtain ⟨q, hq, rfl⟩ := List.mem_map.mp (List.mem_reverse.mp hp)
    have h1 : top - q.2 ≤ top - e := h1
    have h2 : top - e ≤ top - q.1 := h2
    exact ⟨q, hq, by omega, by omega⟩
  · rintro ⟨q, hq, h1, h2⟩
    exact ⟨turnP top q, List.mem_reverse.mpr (List.mem_map_of_mem hq), by show top - q.2 ≤ top - e; omega, by show top - e ≤ top - q.1; omega⟩
theorem turn_corr {top : Int} {rs gs : List (Int × Int)} : Corr rs gs (rs.map (turnP top)) (gs.map (turnP top)).reverse (fun e => top - e) (fun e => top - e) := by
  refine ⟨List.length_map .., fun i r r' e e' x h1 h2 => ?_, fun i r r' e e' x h1 h2 => ?_, fun e h => fun z => h (turn_in.mp z), fun e h => fun z => h ?_⟩
  · rw [List.getElem?_map, e] at e'
    cases e'
    exact ⟨by show top - r.2 ≤ top - x; omega, by show top - x ≤ top - r.1; omega⟩
  · rw [List.getElem?_map, e] at e'
    cases e'
    have h1 : top - r.2 ≤ x := h1
    have h2 : x ≤ top - r.1 := h2
    exact ⟨by omega, by omega⟩
  · have := (turn_in (top := top) (gs := gs) (e := top - e)).mpr z
    rw [show top - (top - e) = e by omega] at this
    exact this
/-! ### each as many, and shifted -/
theorem moved_mem {m s x a b : Int} (hm : 1 ≤ m) : (a * m + s ≤ x ∧ x ≤ b * m + m - 1 + s) ↔ (a ≤ (x - s) / m ∧ (x - s) / m ≤ b) := by
  have m0 : 0 < m := by omega
  rw [Int.le_ediv_iff_mul_le m0, ← Int.lt_add_one_iff (a := (x - s) / m), Int.ediv_lt_iff_lt_mul m0, Int.add_mul]
  omega
theorem moved_back {m s e : Int} (hm : 1 ≤ m) : (e * m + s - s) / m = e := by
  rw [Int.add_sub_cancel, Int.mul_ediv_cancel _ (by omega)]
theorem moved_inS {m s x : Int} {gs : List (Int × Int)} (hm : 1 ≤ m) : InS (movedF m s gs) x ↔ InS gs ((x - s) / m) := by
  unfold movedF
  constructor
  · rintro ⟨p, hp, h1, h2⟩
    obtain ⟨q, hq, rfl⟩ := List.mem_map.mp hp
    exact ⟨q, hq, (moved_mem hm).mp ⟨h1, h2⟩⟩
  · rintro ⟨q, hq, h⟩
    exact ⟨_, List.mem_map_of_mem hq, (moved_mem (s := s) hm).mpr h⟩
theorem moved_corr {m s : Int} (hm : 1 ≤ m) {rs gs : List (Int × Int)} : Corr rs gs (movedF m s rs) (movedF m s gs) (fun e => e * m + s) (fun x => (x - s) / m) := by
  refine ⟨List.length_map .., fun i r r' e e' x h1 h2 => ?_, fun i r r' e e' x h1 h2 => ?_, fun e h => fun z => h ?_, fun e h => fun z => h ((moved_inS hm).mpr z)⟩
  · unfold movedF at e'
    rw [List.getElem?_map, e] at e'
    cases e'
    refine (moved_mem hm).mpr ?_
    rw [moved_back hm]
    exact ⟨h1, h2⟩
  · unfold movedF at e'
    rw [List.getElem?_map, e] at e'
    cases e'
    exact (moved_mem hm).mp ⟨h1, h2⟩
  · have := (moved_inS (gs := gs) hm).mp z
    rw [moved_back hm] at this
    exact this
/-! ### in another order -/
theorem MinHit.perm {rs rs' gs : List (Int × Int)} {n n' : Nat} (h : MinHit rs gs n) (h' : MinHit rs' gs n') (e : ∀ o, o ∈ rs ↔ o ∈ rs') : n = n' := by
  obtain ⟨row, hl, hf, hh⟩ := h.some
  obtain ⟨row', hl', hf', hh'⟩ := h'.some
  have a := h'.low row hf fun r hr => hh r ((e r).mpr hr)
  have b := h.low row' hf' fun r hr => hh' r ((e r).mp hr)
  omega
/-! ### a run more -/
theorem MinHit.more {rs gs : List (Int × Int)} {w : Int × Int} {n n' : Nat} (h : MinHit rs gs n) (h' : MinHit (rs ++ [w]) gs n') (hw : allGB gs w = false) : n' = n ∨ n' = n + 1 := by
  obtain ⟨row, hl, hf, hh⟩ := h.some
  obtain ⟨row', hl', hf', hh'⟩ := h'.some
  have b := h.low row' hf' fun r hr => hh' r (List.mem_append_left _ hr)
  obtain ⟨x, x1, x2, x3⟩ : ∃ x, w.1 ≤ x ∧ x ≤ w.2 ∧ ¬ InS gs x := by
    refine Classical.byContradiction fun z => ?_
    have : allGB gs w = true := allGB_iff.mpr fun n h1 h2 => Classical.byContradiction fun y => z ⟨n, h1, h2, y⟩
    rw [hw] at this
    cases this
  have a := h'.low (row ++ [x]) (fun e he => ?_) fun r hr => ?_
  · rw [List.length_append] at a
    simp only [List.length_cons, List.length_nil] at a
    omega
  · rcases List.mem_append.mp he with z | z
    · exact hf e z
    · rw [List.mem_singleton.mp z]; exact x3
  · rcases List.mem_append.mp hr with z | z
    · obtain ⟨e, he, h1⟩ := hh r z
      exact ⟨e, List.mem_append_left _ he, h1⟩
    · rw [List.mem_singleton.mp z]
      exact ⟨x, List.mem_append_right _ (List.mem_singleton.mpr rfl), x1, x2⟩
theorem ManyV.blind_more {rs gs : List (Int × Int)} {w : Int × Int} {v v' : Int} (h : ManyV rs gs v) (h' : ManyV (rs ++ [w]) gs v') (hv : v < 0) : v' = v := by
  obtain ⟨i, r, e1, e2, e3, rfl⟩ := h.neg hv
  have lt := (List.getElem?_eq_some_iff.mp e1).1
  have e1' : (rs ++ [w])[i]? = some r := by rw [List.getElem?_append_left lt]; exact e1
  rcases h' with ⟨i', r', f1, f2, f3, rfl⟩ | ⟨b1, n', rfl, b2⟩
  · have : i = i' := by
      rcases Nat.lt_trichotomy i i' with z | z | z
      · rw [f3 i r z e1'] at e2; cases e2
      · exact z
      · rw [List.getElem?_append_left (by omega)] at f1
        rw [e3 i' r' z f1] at f2; cases f2
    rw [this]
  · rw [b1 r (List.mem_of_getElem? e1')] at e2
    cases e2
theorem ManyV.any_more {rs gs : List (Int × Int)} {w : Int × Int} {v v' : Int} (h : ManyV rs gs v) (h' : ManyV (rs ++ [w]) gs v') (hv : 0 ≤ v) : v' = v ∨ v' = v + 1 ∨ v' = -1 - (rs.length : Int) := by
  obtain ⟨a1, n, rfl, a2⟩ := h.pos hv
  rcases h' with ⟨i', r', f1, f2, f3, rfl⟩ | ⟨b1, n', rfl, b2⟩
  · have l1 := (List.getElem?_eq_some_iff.mp f1).1
    rw [List.length_append, List.length_cons, List.length_nil] at l1
    by_cases c : i' < rs.length
    · rw [List.getElem?_append_left c] at f1
      rw [a1 r' (List.mem_of_getElem? f1)] at f2
      cases f2
    · exact .inr (.inr (by omega))
  · have := a2.more b2 (b1 w (List.mem_append_right _ (List.mem_singleton.mpr rfl)))
    omega
theorem ManyV.wide_more {rs gs : List (Int × Int)} {w r : Int × Int} {v v' : Int} (h : ManyV rs gs v) (h' : ManyV (rs ++ [w]) gs v') (hr : r ∈ rs) (h1 : w.1 ≤ r.1) (h2 : r.2 ≤ w.2) : v' = v := by
  by_cases hv : v < 0
  · exact h.blind_more h' hv
  · obtain ⟨a1, n, rfl, a2⟩ := h.pos (by omega)
    have hw : allGB gs w = false := by
      cases c : allGB gs w with
      | false => rfl
      | true =>
        have : allGB gs r = true := allGB_iff.mpr fun n k1 k2 => allGB_iff.mp c n (by omega) (by omega)
        rw [a1 r hr] at this
        cases this
    rcases h' with ⟨i', r', f1, f2, f3, rfl⟩ | ⟨b1, n', rfl, b2⟩
    · rcases List.mem_append.mp (List.mem_of_getElem? f1) with z | z
      · rw [a1 r' z] at f2; cases f2
      · rw [List.mem_singleton.mp z, hw] at f2; cases f2
    · obtain ⟨row, hl, hf, hh⟩ := a2.some
      obtain ⟨row', hl', hf', hh'⟩ := b2.some
      have b := a2.low row' hf' fun r hr => hh' r (List.mem_append_left _ hr)
      have a := b2.low row hf fun q hq => by
        rcases List.mem_append.mp hq with z | z
        · exact hh q z
        · rw [List.mem_singleton.mp z]
          obtain ⟨e, he, k1, k2⟩ := hh r hr
          exact ⟨e, he, by omega, by omega⟩
      omega
/-! ### less gone -/
theorem ManyV.less {rs gs gs' : List (Int × Int)} {v v' : Int} (h : ManyV rs gs v) (h' : ManyV rs gs' v') (hs : ∀ e, InS gs' e → InS gs e) (hv : 0 ≤ v) : 0 ≤ v' ∧ v' ≤ v := by
  obtain ⟨a1, n, rfl, a2⟩ := h.pos hv
  rcases h' with ⟨i', r', f1, f2, f3, rfl⟩ | ⟨b1, n', rfl, b2⟩
  · have : allGB gs r' = true := allGB_iff.mpr fun n k1 k2 => hs n (allGB_iff.mp f2 n k1 k2)
    rw [a1 r' (List.mem_of_getElem? f1)] at this
    cases this
  · obtain ⟨row, hl, hf, hh⟩ := a2.some
    have := b2.low row (fun e he z => hf e he (hs e z)) hh
    omega

/-! ### how many, looked at -/
def spMany (K : PySem.W.Frag) (Ms : GX.Mq) (Xs : List Addr) (Pl Pn Pr Pb Pe Pa Pi Pf : Addr) : Sp := fun vs H Q _ => ∃ (a b : Addr) (rs gs : List (Int × Int)), vs = [.ref a, .ref b] ∧ LsA H a rs ∧ LsA H b gs ∧ rs.length ≤ 600 ∧ gs.length ≤ 100 ∧ (∀ r ∈ rs, 0 ≤ r.1 ∧ r.1 ≤ r.2) ∧ Ris 0 gs ∧ GX.TQ Ms Xs H ∧ LamL Ms Pl ∧ PsS Ms Pn Pr Pb Pe Pa Pi Pf ∧
  ∀ H2 v, GX.NoTab H H2 → GX.TQ Ms Xs H2 → ManyV rs gs v → Q (.int v) H2
def spTurned : Sp := fun vs H Q _ => ∃ (a : Addr) (top : Int) (ps : List (Int × Int)), vs = [.ref a, .int top] ∧ LsA H a ps ∧ ps.length ≤ 900 ∧ ∀ l H', H l = none → LsA H' l (ps.map (turnP top)) → Same H H' → Q (.ref l) H'
def spOrdered : Sp := fun vs H Q _ => ∃ (d c m : Addr) (t : Int) (rs : List (Int × Int)), vs = [.ref d, .ref m] ∧ StAt H d c t ∧ t < 2 ^ 58 ∧ LsA H m rs ∧ m ≠ d ∧ m ≠ c ∧ rs.length ≤ 60 ∧
  ∀ p H' rs' t', H p = none → (∀ o, o ∈ rs ↔ o ∈ rs') → rs'.length = rs.length → LsA H' p rs' → t ≤ t' → t' ≤ t + 60 → StAt H' d c t' → Kp d c H H' → Q (.ref p) H'
/-- what stands: the draws' state, the tables, runs and what is gone -/
structure WS (Ms : GX.Mq) (Xs : List Addr) (d c a b : Addr) (rs gs : List (Int × Int)) (t : Int) (H : Hp) : Prop where
  st : StAt H d c t
  tq : GX.TQ Ms Xs H
  la : LsA H a rs
  lb : LsA H b gs
  oa : a ≠ d ∧ a ≠ c
  ob : b ≠ d ∧ b ≠ c
section
variable {Ms : GX.Mq} {Xs : List Addr} {d c a b : Addr} {rs gs : List (Int × Int)} {t : Int} {H : Hp}
theorem WS.kp (S : WS Ms Xs d c a b rs gs t H) {H' : Hp} {t' : Int} (k : Kp d c H H') (st : StAt H' d c t') : WS Ms Xs d c a b rs gs t' H' := ⟨st, tq_kp S.tq S.st k, S.la.kp S.st k S.oa, S.lb.kp S.st k S.ob, S.oa, S.ob⟩
theorem WS.no (S : WS Ms Xs d c a b rs gs t H) {H' : Hp} (n : GX.NoTab H H') (q : GX.TQ Ms Xs H') : WS Ms Xs d c a b rs gs t H' := ⟨S.st.noTab n, q, S.la.noTab n, S.lb.noTab n, S.oa, S.ob⟩
theorem WS.sm (S : WS Ms Xs d c a b rs gs t H) {H' : Hp} (s : Same H H') : WS Ms Xs d c a b rs gs t H' := ⟨S.st.same s, S.tq.same s, S.la.same s, S.lb.same s, S.oa, S.ob⟩
end
def spMoreR (K : PySem.W.Frag) (Ms : GX.Mq) (Xs : List Addr) (Pl Pn Pr Pb Pe Pa Pi Pf : Addr) : Sp := fun vs H Q _ => ∃ (d c a b : Addr) (rs gs : List (Int × Int)) (t v top : Int), vs = [.ref d, .ref a, .ref b, .int v, .int top] ∧ WS Ms Xs d c a b rs gs t H ∧ t < 2 ^ 56 ∧ 1 ≤ rs.length ∧ rs.length ≤ 24 ∧ gs.length ≤ 24 ∧ (∀ r ∈ rs, 0 ≤ r.1 ∧ r.1 ≤ r.2) ∧ Ris 0 gs ∧ ManyV rs gs v ∧ 0 ≤ top ∧ top < 10 ^ 38 ∧ LamL Ms Pl ∧ PsS Ms Pn Pr Pb Pe Pa Pi Pf ∧
  ∀ H2 t2, WS Ms Xs d c a b rs gs t2 H2 → t ≤ t2 → t2 ≤ t + 100 → Q (.bl true) H2
/-- runs and one more -/
theorem cat_run {H : Hp} {a l1 T : Addr} {rs : List (Int × Int)} {w : Int × Int} {Q : VK} (hA : LsA H a rs) (eT : H T = some (.tup [.int w.1, .int w.2])) (e1 : H l1 = some (.lst [.ref T])) (hz : rs.length ≤ 600) (q : ∀ l2 H', H l2 = none → Same H H' → LsA H' l2 (rs ++ [w]) → Q (.ref l2) H') : rCat (.ref a) (.ref l1) H Q := by
  obtain ⟨us, eA, pr⟩ := hA
  have lu := pr.1
  refine ⟨a, l1, _, _, rfl, rfl, eA, e1, ?_, fun l2 n2 => ?_⟩
  · show us.length + 1 ≤ sizeLine
    exact Nat.le_trans (by omega : _ ≤ 1000) (by decide)
  · have s2 := same_upd (o := .lst (us ++ [V.ref T])) n2
    exact q l2 _ n2 s2 ⟨_, upd_same, (pr.same s2).snoc (s2 _ _ eT)⟩
abbrev sMany : Stmt := topS 34
theorem scMany : FnScope ["_law_runs_here", "_law_gone_here", "_law_told"] ["_law_runs_here", "_law_gone_here"] (defScope sMany) := ⟨rfl, rfl, rfl, by decide +kernel, rfl, by decide +kernel, by decide +kernel⟩
abbrev sTurned : Stmt := topS 35
theorem scTurned : FnScope ["_law_pairs", "_law_top", "_law_first", "_law_last"] ["_law_pairs", "_law_top"] (defScope sTurned) := ⟨rfl, rfl, rfl, by decide +kernel, rfl, by decide +kernel, by decide +kernel⟩
abbrev sOrdered : Stmt := topS 36
theorem scOrdered : FnScope ["_law_state", "_law_runs_here", "_law_found", "_law_span"] ["_law_state", "_law_runs_here"] (defScope sOrdered) := ⟨rfl, rfl, rfl, by decide +kernel, rfl, by decide +kernel, by decide +kernel⟩
abbrev sMoreR : Stmt := topS 37
theorem scMoreR : FnScope ["_law_state", "_law_runs_here", "_law_gone_here", "_law_due", "_law_top", "_law_first", "_law_last", "_law_far", "_law_wider", "_law_other", "_law_found"] ["_law_state", "_law_runs_here", "_law_gone_here", "_law_due", "_law_top"] (defScope sMoreR) := ⟨rfl, rfl, rfl, by decide +kernel, rfl, by decide +kernel, by decide +kernel⟩
section
variable {K : PySem.W.Frag} {mg : Str → Option Value} {P : Program} {w : World} {base : Heap} {Ms : GX.Mq} {Xs : List Addr} {Pl Pn Pr Pb Pe Pa Pi Pf : Addr}
theorem ok_Many {f : Addr} {fd : FuncData} (F : Fun K "_law_many" "_law_many" sMany f fd) (C_least_samples : Cal P w K mg base 4 "least_samples" ["runs", "gone"] (spLeast K Pl)) (C__law_samples_shown : Cal P w K mg base 3 "_law_samples_shown" ["_law_runs_here", "_law_gone_here", "_law_told"] spSShown) (C_shows_samples : Cal P w K mg base 10 "shows_samples" ["runs", "gone", "told"] (spShows K Ms Xs Pn Pr Pb Pe Pa Pi Pf)) (m_list : mg "list" = none) (m_len : mg "len" = none) : FnOk P w K mg base CX0 11 f fd ["_law_runs_here", "_law_gone_here"] (spMany K Ms Xs Pl Pn Pr Pb Pe Pa Pi Pf) := by
  refine F.ok scMany (fun vs H Q E h => ?_) (fun cdv A outer s H vs Q E hr h => ?_)
  · obtain ⟨a, b, rs, gs, rfl, _⟩ := h
    rfl
  · obtain ⟨a, b, rs, gs, rfl, hA, hB, hra, hgb, hro, hrg, hT, hL, hM, q⟩ := h
    refine ⟨_, pss_cons (ps_set (i := 2) scMany.nd rfl (.inl rfl) (pe_own C_least_samples (hr.mono (show 4 ≤ 10 by decide)) (by rfl) (pa_cons (pe_callTy call_list_of (by rfl) m_list (by decide +kernel) (pa_cons (pv 0) pa_nil)) (pa_cons (pe_callTy call_list_of (by rfl) m_list (by decide +kernel) (pa_cons (pv 1) pa_nil)) pa_nil))))
      (pss_cons (ps_if (PW.pt (pw_or (pt_not (pt_val (pe_own C__law_samples_shown (hr.mono (show 3 ≤ 10 by decide)) (by rfl) (pa_cons (pv 0) (pa_cons (pv 1) (pa_cons (pv 2) pa_nil)))))) (pw_or1 (pt_cmpR op_notBl (pe_own C_shows_samples hr (by rfl) (pa_cons (pe_callTy call_list_of (by rfl) m_list (by decide +kernel) (pa_cons (pv 0) pa_nil)) (pa_cons (pe_callTy call_list_of (by rfl) m_list (by decide +kernel) (pa_cons (pv 1) pa_nil)) (pa_cons (pv 2) pa_nil)))) pe_bl (nomark _))))) (pss_one (ps_ret pe_non))
        pss_nil)
      (pss_one (ps_ret (pe_ifExp (pt_cmpR op_eq (pe_ix ix_tup (pv 2) pe_int (fun _ _ => rfl)) pe_str (nomark _)) (pe_op op_sub (pe_un un_neg pe_int) (pe_ix ix_tup (pv 2) pe_int (fun _ _ => rfl))) (pe_callB call_len_seq (by rfl) m_len PySem.boot_len (pa_cons (pe_ix ix_tup (pv 2) pe_int (fun _ _ => rfl)) pa_nil)))))), ?_⟩
    have hrr : ∀ r ∈ rs, r.1 ≤ r.2 := fun r h => (hro r h).2
    obtain ⟨ua, eA, pa⟩ := id hA
    obtain ⟨ub, eB, pb⟩ := id hB
    have prN : ∀ {H' : Hp} {vs : List V} {ps : List (Int × Int)}, Prs H vs ps → GX.NoTab H H' → Prs H' vs ps := fun pr n => ⟨pr.1, fun i r er => let ⟨x, h1, h2⟩ := pr.2 i r er; ⟨x, h1, n.tup h2⟩⟩
    refine ⟨_, rfl, a, _, rfl, .inl (SqL.of eA), fun l nl => ?_⟩
    have sl := same_upd (o := .lst ua) nl
    refine ⟨_, rfl, b, _, rfl, .inl (SqL.of (sl _ _ eB)), fun r nr => ?_⟩
    have sr := same_upd (o := .lst ub) nr
    have s2 := sl.trans sr
    have hl : LsQ (upd (upd H l (.lst ua)) r (.lst ub)) l rs := ⟨ua, .inl (sr _ _ upd_same), pa.same s2⟩
    have hr' : LsQ (upd (upd H l (.lst ua)) r (.lst ub)) r gs := ⟨ub, .inl upd_same, pb.same s2⟩
    dsimp only [tNil, tCons]
    refine spLeast.ask hl hr' (by omega) (by omega) hrr hrg (hT.same s2) hL fun H1 T dd n1 t1 nT ht => ?_
    have n01 := (NoTab.same s2).trans n1
    have hta := ht.a (fun r h => (hro r h).1) (by omega)
    refine ⟨_, rfl, _, rfl, _, rfl, a, b, T, rs, gs, rfl, hA.noTab n01, hB.noTab n01, by omega, by omega, hrr, hrg, hta, fun H2 s3 => ⟨_, rfl, ite2 (fun z => nomatch z) (fun _ => ?_)⟩⟩
    have n02 := n01.trans (NoTab.same s3)
    refine ⟨_, rfl, a, _, rfl, .inl (SqL.of (n02.lst eA)), fun l2 nl2 => ?_⟩
    have sl2 := same_upd (o := .lst ua) nl2
    refine ⟨_, rfl, b, _, rfl, .inl (SqL.of (sl2 _ _ (n02.lst eB))), fun r2 nr2 => ?_⟩
    have sr2 := same_upd (o := .lst ub) nr2
    have s4 := sl2.trans sr2
    have n03 := n02.trans (NoTab.same s4)
    have hl2 : LsQ (upd (upd H2 l2 (.lst ua)) r2 (.lst ub)) l2 rs := ⟨ua, .inl (sr2 _ _ upd_same), prN pa n03⟩
    have hr2 : LsQ (upd (upd H2 l2 (.lst ua)) r2 (.lst ub)) r2 gs := ⟨ub, .inl upd_same, prN pb n03⟩
    have n13 := (NoTab.same s3).trans (NoTab.same s4)
    have hta3 := ((ht.noTab n13).a (fun r h => (hro r h).1) (by omega)).s
    refine ⟨_, rfl, l2, r2, T, rs, gs, rfl, hl2, hr2, by omega, by omega, hrr, hrg, hta3, (t1.same s3).same s4, hM, fun H7 n7 t7 => ⟨true, true, rfl, rfl, _, rfl, ite2 (fun z => by cases z) (fun _ => ?_)⟩⟩
    have n07 := n03.trans n7
    rcases (ht.noTab (n13.trans n7)).many with ⟨i, eT, hv⟩ | ⟨N, A2, ns, eT, eN, hv⟩
    · refine ⟨_, rfl, T, _, 0, _, rfl, rfl, .inl (.inl eT), atI_nat (j := 0) rfl, rfl, _, rfl, ?_⟩
      rw [decide_eq_true rfl]
      exact iteT ⟨_, rfl, _, rfl, T, _, 1, _, rfl, rfl, .inl (.inl eT), atI_nat (j := 1) rfl, _, _, rfl, rfl, q H7 _ n07 t7 hv⟩
    · refine ⟨_, rfl, T, _, 0, _, rfl, rfl, .inl (.inl eT), atI_nat (j := 0) rfl, rfl, _, rfl, ?_⟩
      rw [decide_eq_false (by decide)]
      refine iteF ⟨_, rfl, T, _, 1, _, rfl, rfl, .inl (.inl eT), atI_nat (j := 1) rfl, N, _, rfl, .inl (SqL.of eN), ?_⟩
      rw [List.length_map]
      exact q H7 _ n07 t7 hv
theorem ok_Turned {f : Addr} {fd : FuncData} (F : Fun K "_law_turned" "_law_turned" sTurned f fd) : FnOk P w K mg base CX0 1 f fd ["_law_pairs", "_law_top"] spTurned := by
  refine F.ok scTurned (fun vs H Q E h => ?_) (fun cdv A outer s H vs Q E hr h => ?_)
  · obtain ⟨a, top, ps, rfl, _⟩ := h
    rfl
  · obtain ⟨a, top, ps, rfl, hA, hz, q⟩ := h
    refine ⟨_, pss_one (ps_ret (pe_lc (own := [("_law_first", 2), ("_law_last", 3)]) (g := (gTup K 2 (gCons (gName 2) (gCons (gName 3) gNil)))) (tt := tYes) (te := (tTup (tCons (tOp (rI0 fun i j => .int (i - j)) (tVar 1) (tVar 3)) (tCons (tOp (rI0 fun i j => .int (i - j)) (tVar 1) (tVar 2)) tNil)))) rfl scTurned.nd (pi_list (pv 0)) (blkOk_by (own := [("_law_first", 2), ("_law_last", 3)]) (N := ["_law_pairs", "_law_top", "_law_first", "_law_last"]) (sc := defScope sTurned) (by decide +kernel)) (fun _ _ _ _ _ => (pg_tup rfl (pgs_cons (pg_name (i := 2) scTurned.nd rfl (.inl rfl)) (pgs_cons (pg_name (i := 3) scTurned.nd rfl (.inl rfl)) pgs_nil)))) (fun _ _ _ _ _ => pts_nil) (fun _ _ _ _ _ => (pe_tup (pa_cons (pe_op op_sub (pv 1) (pv 3)) (pa_cons (pe_op op_sub (pv 1) (pv 2)) pa_nil)))))), ?_⟩
    obtain ⟨us, eA, pr⟩ := id hA
    have lu := pr.1
    refine ⟨_, rfl, a, rfl, ⟨_, SqL.of eA⟩, fun G nG => lc_list (xs := us) (fun j H' => Same H H' ∧ ∃ ws, H' G = some (.lst ws) ∧ Prs H' ws ((ps.take j).map (turnP top))) ⟨same_upd nG, [], upd_same, Prs.nil⟩ (fun j H' _ hP => SqL.of (hP.1 _ _ eA)) (fun j x H' hx hP => ?_) (fun H9 hP => ?_)⟩
    · obtain ⟨sm, ws, eG, hw⟩ := hP
      obtain ⟨g, T, eg, rfl, eT⟩ := prs_at pr hx
      have hj : j < ps.length := (List.getElem?_eq_some_iff.mp eg).1
      have lw : ws.length ≤ 900 := by
        rw [hw.1, List.length_map, List.length_take]; omega
      refine ⟨T, _, rfl, .inl (.inl (sm _ _ eT)), rfl, _, _, rfl, _, _, rfl, rfl, rfl, ?_⟩
      refine ⟨_, rfl, _, rfl, _, _, rfl, rfl, _, rfl, _, rfl, _, _, rfl, rfl, (by show 2 ≤ sizeLine; decide), fun T2 nT2 => ?_⟩
      have sT := same_upd (o := .tup [.int (top - g.2), .int (top - g.1)]) nT2
      refine ⟨_, sT _ _ eG, small1000 (by omega), fun b' o e => ?_, _, upd_same, ?_⟩
      · rw [upd_ne (ne_of_none e nG)]
        exact sT _ _ (sm b' o e)
      · have et : (ps.take (j + 1)).map (turnP top) = (ps.take j).map (turnP top) ++ [(top - g.2, top - g.1)] := by
          rw [List.take_add_one, eg, List.map_append]
          rfl
        rw [et]
        exact ((hw.same sT).snoc upd_same).upd_lst (sT _ _ eG)
    · obtain ⟨sm, ws, eG, hw⟩ := hP
      rw [lu, List.take_length] at hw
      exact q G H9 nG ⟨ws, eG, hw⟩ sm
theorem ok_Ordered {f : Addr} {fd : FuncData} (F : Fun K "_law_ordered" "_law_ordered" sOrdered f fd) (C__law_take : Cal P w K mg base 1 "_law_take" ["_law_state", "_law_many_here"] spTake) (m_len : mg "len" = none) : FnOk P w K mg base CX0 2 f fd ["_law_state", "_law_runs_here"] spOrdered := by
  refine F.ok scOrdered (fun vs H Q E h => ?_) (fun cdv A outer s H vs Q E hr h => ?_)
  · obtain ⟨d, c, m, t, rs, rfl, _⟩ := h
    rfl
  · obtain ⟨d, c, m, t, rs, rfl, hS, ht, hm, md, mc, hml, q⟩ := h
    refine ⟨_, pss_cons (ps_set (i := 2) scOrdered.nd rfl (.inl rfl) (pe_lst pa_nil))
      (pss_cons (ps_for PassesOwn.never rfl (pi_list (pv 1)) (pg_name (i := 3) scOrdered.nd rfl (.inl rfl))
        (pss_one (ps_expr (pe_bm PySem.F.plainAttrs_list PySem.F.slot_list_insert PySem.F.type_list_insert mt_insert (pv 2) (pa_cons (pe_own C__law_take hr (by rfl) (pa_cons (pv 0) (pa_cons (pe_op op_add (pe_callB call_len_seq (by rfl) m_len PySem.boot_len (pa_cons (pv 2) pa_nil)) pe_int) pa_nil))) (pa_cons (pv 3) pa_nil))))))
      (pss_one (ps_ret (pv 2)))), ?_⟩
    obtain ⟨us, em, pr⟩ := id hm
    have lus : us.length = rs.length := pr.1
    refine ⟨Nat.zero_le _, fun p np => ?_⟩
    have sp := same_upd (o := .lst []) np
    have offp := hS.off np
    have tupK : ∀ {T : Addr} {xs : List V} {H' : Hp}, Kp d c H H' → H T = some (.tup xs) → H' T = some (.tup xs) := fun k e => by
      obtain ⟨cs, ec, _⟩ := hS.cells
      exact k _ _ (ne_of e hS.dict (fun z => nomatch z)) (ne_of e ec (fun z => nomatch z)) e
    refine ⟨_, rfl, m, rfl, ⟨_, SqL.of (sp _ _ em)⟩, for_list (xs := us) (fun i σ Hx => ∃ (ws : List V) (l : List (Int × Int)) (t' : Int) (y3 : Option V), σ = [some (.ref d), some (.ref m), some (.ref p), y3] ∧ l.length = i ∧ ws.length = i ∧ (∀ o, o ∈ rs.take i ↔ o ∈ l) ∧ (∀ (j : Nat) r, l[j]? = some r → ∃ T, ws[j]? = some (.ref T) ∧ H T = some (.tup [.int r.1, .int r.2])) ∧ Hx p = some (.lst ws) ∧ t ≤ t' ∧ t' ≤ t + i ∧ StAt Hx d c t' ∧ Kp d c H Hx) ⟨[], [], t, _, rfl, rfl, rfl, fun o => by simp, fun j r e => by simp at e, upd_same, by omega, by omega, hS.same sp, fun b o _ _ e => sp b o e⟩ (fun i σ Hx _ hP => ?_) (fun i x σ Hx hx hP => ?_) (fun σ Hx hP => ?_)⟩
    · obtain ⟨ws, l, t', y3, rfl, ll, lw, hl, hT, ep, t1, t2, hSx, kx⟩ := hP
      exact SqL.of (kx _ _ md mc em)
    · obtain ⟨ws, l, t', y3, rfl, ll, lw, hl, hT, ep, t1, t2, hSx, kx⟩ := hP
      obtain ⟨r, T, er, rfl, eT⟩ := prs_at pr hx
      have hi : i < rs.length := (List.getElem?_eq_some_iff.mp er).1
      refine ⟨_, rfl, .inl ⟨rfl, _, SqL.of ep⟩, _, rfl, _, rfl, p, _, rfl, .inl (SqL.of ep), _, _, rfl, rfl, d, c, t', (i : Int) + 1, by rw [lw]; rfl, hSx, by omega, by omega, by omega, fun r1 H3 r10 r11 hS3 k3 => ?_⟩
      have ep3 := k3 _ _ offp.1 offp.2 ep
      obtain ⟨k, rfl⟩ := Int.eq_ofNat_of_zero_le r10
      refine ⟨_, rfl, p, _, (k : Int), _, rfl, rfl, ep3, small1000 (by rw [lw]; omega), r10, by omega, ?_⟩
      rw [Int.toNat_natCast]
      refine ⟨ws.take k ++ [.ref T] ++ ws.drop k, l.take k ++ [r] ++ l.drop k, t' + 1, _, rfl, ?_, ?_, fun z => ?_, fun j r2 e => ?_, upd_same, by omega, by omega, hS3.upd offp.1 offp.2, fun b u b1 b2 e => ?_⟩
      · simp only [List.length_append, List.length_take, List.length_drop, List.length_singleton]; omega
      · simp only [List.length_append, List.length_take, List.length_drop, List.length_singleton]; omega
      · rw [List.take_add_one, er, List.mem_append, hl z]
        have : z ∈ l ↔ z ∈ l.take k ∨ z ∈ l.drop k := by
          rw [← List.mem_append, List.take_append_drop]
        rw [this]
        simp only [Option.toList, List.mem_append, List.mem_singleton]
        constructor
        · rintro ((h | h) | h)
          · exact .inl (.inl h)
          · exact .inr h
          · exact .inl (.inr h)
        · rintro ((h | h) | h)
          · exact .inl (.inl h)
          · exact .inr h
          · exact .inl (.inr h)
      · have hk : k ≤ i := by omega
        by_cases c1 : j < k
        · rw [List.append_assoc, List.getElem?_append_left (by rw [List.length_take]; omega), List.getElem?_take_of_lt c1] at e
          rw [List.append_assoc, List.getElem?_append_left (by rw [List.length_take]; omega), List.getElem?_take_of_lt c1]
          exact hT j r2 e
        · by_cases c2 : j = k
          · subst c2
            rw [List.append_assoc, List.getElem?_append_right (by rw [List.length_take]; omega), List.length_take, Nat.min_eq_left (by omega), Nat.sub_self] at e
            cases e
            rw [List.append_assoc, List.getElem?_append_right (by rw [List.length_take]; omega), List.length_take, Nat.min_eq_left (by omega), Nat.sub_self]
            exact ⟨T, rfl, eT⟩
          · have hj : j - (k + 1) + k = j - 1 := by omega
            rw [List.getElem?_append_right (by simp only [List.length_append, List.length_take, List.length_singleton]; omega), List.getElem?_drop] at e
            rw [List.getElem?_append_right (by simp only [List.length_append, List.length_take, List.length_singleton]; omega), List.getElem?_drop]
            simp only [List.length_append, List.length_take, List.length_singleton] at e ⊢
            rw [Nat.min_eq_left (by omega), show k + (j - (k + 1)) = j - 1 by omega] at e
            rw [Nat.min_eq_left (by omega), show k + (j - (k + 1)) = j - 1 by omega]
            exact hT (j - 1) r2 e
      · have nb : b ≠ p := ne_of_none e np
        rw [upd_ne nb]
        exact k3 _ _ b1 b2 (kx b u b1 b2 e)
    · obtain ⟨ws, l, t', y3, rfl, ll, lw, hl, hT, ep, t1, t2, hSx, kx⟩ := hP
      rw [lus] at ll lw hl t2
      rw [List.take_length] at hl
      exact ⟨_, rfl, q p Hx l t' np hl ll ⟨ws, ep, lw.trans ll.symm, fun j r e => let ⟨T, a1, a2⟩ := hT j r e; ⟨T, a1, tupK kx a2⟩⟩ t1 (by omega) hSx kx⟩
theorem ok_MoreR {f : Addr} {fd : FuncData} (F : Fun K "_law_more_runs_right" "_law_more_runs_right" sMoreR f fd) (C__law_take : Cal P w K mg base 1 "_law_take" ["_law_state", "_law_many_here"] spTake) (C__law_great : Cal P w K mg base 2 "_law_great" ["_law_state"] spGreat) (C__law_many : Cal P w K mg base 11 "_law_many" ["_law_runs_here", "_law_gone_here"] (spMany K Ms Xs Pl Pn Pr Pb Pe Pa Pi Pf)) (m_len : mg "len" = none) (m_max : mg "max" = none) : FnOk P w K mg base CX0 12 f fd ["_law_state", "_law_runs_here", "_law_gone_here", "_law_due", "_law_top"] (spMoreR K Ms Xs Pl Pn Pr Pb Pe Pa Pi Pf) := by
  refine F.ok scMoreR (fun vs H Q E h => ?_) (fun cdv A outer s H vs Q E hr h => ?_)
  · obtain ⟨d, c, a, b, rs, gs, t, v, top, rfl, _⟩ := h
    rfl
  · obtain ⟨d, c, a, b, rs, gs, t, v, top, rfl, S, ht, hr1, hr24, hg24, hro, hrg, hv, tp0, tp1, hL, hM, q⟩ := h
    refine ⟨_, pss_cons (ps_asg (pe_ix ix_list (pv 1) (pe_own C__law_take (hr.mono (show 1 ≤ 11 by decide)) (by rfl) (pa_cons (pv 0) (pa_cons (pe_callB call_len_seq (by rfl) m_len PySem.boot_len (pa_cons (pv 1) pa_nil)) pa_nil))) (fun _ _ => rfl)) (pg_tup rfl (pgs_cons (pg_name (i := 5) scMoreR.nd rfl (.inl rfl)) (pgs_cons (pg_name (i := 6) scMoreR.nd rfl (.inl rfl)) pgs_nil))))
      (pss_cons (ps_set (i := 7) scMoreR.nd rfl (.inl rfl) (pe_ix ix_list (pe_lst (pa_cons pe_int (pa_cons (pe_own C__law_great (hr.mono (show 2 ≤ 11 by decide)) (by rfl) (pa_cons (pv 0) pa_nil)) pa_nil))) (pe_own C__law_take (hr.mono (show 1 ≤ 11 by decide)) (by rfl) (pa_cons (pv 0) (pa_cons pe_int pa_nil))) (fun _ _ => rfl)))
      (pss_cons (ps_set (i := 8) scMoreR.nd rfl (.inl rfl) (pe_tup (pa_cons (pe_callB (call_max2 rfl) (by rfl) m_max (by decide +kernel) (pa_cons pe_int (pa_cons (pe_op op_sub (pe_op op_sub (pv 5) (pe_own C__law_take (hr.mono (show 1 ≤ 11 by decide)) (by rfl) (pa_cons (pv 0) (pa_cons pe_int pa_nil)))) (pv 7)) pa_nil))) (pa_cons (pe_op op_add (pe_op op_add (pv 6) (pe_own C__law_take (hr.mono (show 1 ≤ 11 by decide)) (by rfl) (pa_cons (pv 0) (pa_cons pe_int pa_nil)))) (pv 7)) pa_nil))))
      (pss_cons (ps_if (PW.pt (pw_or (pt_cmpR op_ne (pe_own C__law_many hr (by rfl) (pa_cons (pe_op op_cat (pv 1) (pe_lst (pa_cons (pe_tup (pa_cons (pv 5) (pa_cons (pv 6) pa_nil))) pa_nil))) (pa_cons (pv 2) pa_nil))) (pv 3) (nomark _)) (pw_or1 (pt_cmpR op_ne (pe_own C__law_many hr (by rfl) (pa_cons (pe_op op_cat (pv 1) (pe_lst (pa_cons (pv 8) pa_nil))) (pa_cons (pv 2) pa_nil))) (pv 3) (nomark _))))) (pss_one (ps_ret pe_bl))
        pss_nil)
      (pss_cons (ps_set (i := 9) scMoreR.nd rfl (.inl rfl) (pe_own C__law_take (hr.mono (show 1 ≤ 11 by decide)) (by rfl) (pa_cons (pv 0) (pa_cons (pe_op op_add (pv 4) pe_int) pa_nil))))
      (pss_cons (ps_set (i := 10) scMoreR.nd rfl (.inl rfl) (pe_own C__law_many hr (by rfl) (pa_cons (pe_op op_cat (pv 1) (pe_lst (pa_cons (pe_tup (pa_cons (pv 9) (pa_cons (pe_op op_add (pv 9) (pe_own C__law_take (hr.mono (show 1 ≤ 11 by decide)) (by rfl) (pa_cons (pv 0) (pa_cons pe_int pa_nil)))) pa_nil))) pa_nil))) (pa_cons (pv 2) pa_nil))))
      (pss_cons (ps_if (PW.pt (pw_or (pt_cmpR op_isN (pv 10) pe_non (nomark _)) (pw_or1 (PW.pt (pw_and (pt_cmpR op_lt (pv 3) pe_int (nomark _)) (pw_and1 (pt_cmpR op_ne (pv 10) (pv 3) (nomark _)))))))) (pss_one (ps_ret pe_bl))
        pss_nil)
      (pss_one (ps_ret (pe_or (pe_cmpR op_lt (pv 3) pe_int (nomark _)) (pe_one (pe_cmpR op_in_seq (pv 10) (pe_tup (pa_cons (pv 3) (pa_cons (pe_op op_add (pv 3) pe_int) (pa_cons (pe_op op_sub (pe_un un_neg pe_int) (pe_callB call_len_seq (by rfl) m_len PySem.boot_len (pa_cons (pv 1) pa_nil))) pa_nil)))) (by rfl)))))))))))), ?_⟩
    obtain ⟨us, eA, pr⟩ := id S.la
    have lus : us.length = rs.length := pr.1
    -- a run of them
    refine ⟨_, rfl, _, rfl, _, rfl, a, _, rfl, .inl (SqL.of eA), d, c, t, (rs.length : Int), by rw [lus]; rfl, S.st, by omega, by omega, by omega, fun r1 H1 r10 r11 st1 k1 => ?_⟩
    have S1 := S.kp k1 st1
    obtain ⟨u1, eA1, pr1⟩ := id S1.la
    obtain ⟨x, ex, hx⟩ := pick_at (xs := u1) (n := rs.length) pr1.1 r10 r11
    obtain ⟨j, hj⟩ := List.getElem?_of_mem hx
    obtain ⟨r, T, er, rfl, eT⟩ := prs_at pr1 hj
    have hrm := List.mem_of_getElem? er
    obtain ⟨b1, b2⟩ := hro r hrm
    refine ⟨a, _, _, _, rfl, rfl, SqL.of eA1, ex, T, _, rfl, .inl (.inl eT), rfl, _, _, rfl, _, _, rfl, rfl, ?_⟩
    -- how far
    refine ⟨_, rfl, d, c, _, rfl, st1, by omega, fun g1 H2 g10 g11 st2 k2 => ⟨(by show 2 ≤ sizeLine; decide), fun y ny => ?_⟩⟩
    have S2 := S1.kp k2 st2
    have sy := same_upd (o := .lst [.int 0, .int g1]) ny
    have offy := st2.off ny
    have S2' := S2.sm sy
    refine ⟨_, rfl, d, c, _, 2, rfl, S2'.st, by omega, by decide, by decide, fun a2 H3 a20 a21 st3 k3 => ?_⟩
    have S3 := S2'.kp k3 st3
    have ey := k3 _ _ offy.1 offy.2 (upd_same (H := H2) (a := y) (o := .lst [.int 0, .int g1]))
    obtain ⟨x, ex, hx⟩ := pick_at (xs := [V.int 0, V.int g1]) (n := 2) rfl a20 (by omega)
    obtain ⟨far, rfl, far0⟩ : ∃ vi : Int, x = .int vi ∧ 0 ≤ vi := by
      simp only [List.mem_cons, List.not_mem_nil, or_false] at hx
      rcases hx with rfl | rfl
      · exact ⟨_, rfl, by omega⟩
      · exact ⟨_, rfl, by omega⟩
    refine ⟨y, _, _, _, rfl, rfl, SqL.of ey, ex, ?_⟩
    -- a wider one
    refine ⟨_, rfl, _, rfl, d, c, _, 5, rfl, st3, by omega, by decide, by decide, fun a3 H4 a30 a31 st4 k4 => ⟨_, _, rfl, rfl, _, rfl, _, _, rfl, rfl, 0, _, rfl, ?_⟩⟩
    have S4 := S3.kp k4 st4
    refine ⟨_, rfl, _, rfl, d, c, _, 5, rfl, st4, by omega, by decide, by decide, fun a4 H5 a40 a41 st5 k5 => ⟨_, _, rfl, rfl, _, rfl, _, _, rfl, rfl, (by show 2 ≤ sizeLine; decide), fun W nW => ?_⟩⟩
    have S5 := S4.kp k5 st5
    have sW := same_upd (o := .tup [.int (if r.1 - a3 - far > 0 then r.1 - a3 - far else 0), .int (r.2 + a4 + far)]) nW
    have eW : upd H5 W (.tup [.int (if r.1 - a3 - far > 0 then r.1 - a3 - far else 0), .int (r.2 + a4 + far)]) W = some (.tup [.int (if r.1 - a3 - far > 0 then r.1 - a3 - far else 0), .int (r.2 + a4 + far)]) := upd_same
    obtain ⟨wf, hwf⟩ : ∃ wf, wf = (if r.1 - a3 - far > 0 then r.1 - a3 - far else 0) := ⟨_, rfl⟩
    rw [← hwf] at sW eW
    have wf0 : 0 ≤ wf ∧ wf ≤ r.1 := by rw [hwf]; split <;> omega
    show (fun x H1 => _) (V.ref W) (upd H5 W (.tup [.int (if r.1 - a3 - far > 0 then r.1 - a3 - far else 0), .int (r.2 + a4 + far)]))
    rw [← hwf]
    have S6 := S5.sm sW
    generalize upd H5 W (.tup [.int wf, .int (r.2 + a4 + far)]) = H6 at sW eW S6
    have hro2 : ∀ (w : Int × Int), 0 ≤ w.1 → w.1 ≤ w.2 → ∀ q ∈ rs ++ [w], 0 ≤ q.1 ∧ q.1 ≤ q.2 := fun w w0 w1 q hq => by
      rcases List.mem_append.mp hq with z | z
      · exact hro q z
      · rw [List.mem_singleton.mp z]; exact ⟨w0, w1⟩
    have lrs : ∀ w : Int × Int, (rs ++ [w]).length ≤ 600 := fun w => by rw [List.length_append, List.length_cons, List.length_nil]; omega
    -- once more
    refine ⟨_, rfl, _, rfl, _, rfl, (by show 2 ≤ sizeLine; decide), fun T1 nT1 => ⟨(by show 1 ≤ sizeLine; decide), fun l1 n1 => ?_⟩⟩
    have sT1 := same_upd (o := .tup [.int r.1, .int r.2]) nT1
    have sl1 := same_upd (o := .lst [.ref T1]) n1
    have S7 := (S6.sm sT1).sm sl1
    refine cat_run (w := r) S7.la (sl1 _ _ upd_same) upd_same (by omega) fun l2 H8 nl2 s8 hl2 => ?_
    have S8 := S7.sm s8
    have eW8 := s8 _ _ (sl1 _ _ (sT1 _ _ eW))
    refine ⟨_, rfl, l2, b, _, gs, rfl, hl2, S8.lb, lrs _, by omega, hro2 r b1 b2, hrg, S8.tq, hL, hM, fun H9 v1 n9 t9 hv1 => ?_⟩
    have ev1 : v1 = v := hv.wide_more hv1 hrm (Int.le_refl _) (Int.le_refl _)
    subst ev1
    have S9 := S8.no n9 t9
    refine ⟨_, rfl, rfl, _, rfl, ite2 (fun z => by simp at z) (fun _ => ?_)⟩
    -- a wider one
    refine ⟨_, rfl, _, rfl, (by show 1 ≤ sizeLine; decide), fun l3 n3 => ?_⟩
    have sl3 := same_upd (o := .lst [.ref W]) n3
    have S10 := S9.sm sl3
    refine cat_run (w := (wf, r.2 + a4 + far)) S10.la (sl3 _ _ (n9.tup eW8)) upd_same (by omega) fun l4 H11 nl4 s11 hl4 => ?_
    have S11 := S10.sm s11
    refine ⟨_, rfl, l4, b, _, gs, rfl, hl4, S11.lb, lrs _, by omega, hro2 _ wf0.1 (by show wf ≤ r.2 + a4 + far; omega), hrg, S11.tq, hL, hM, fun H12 v2 n12 t12 hv2 => ?_⟩
    have ev2 : v2 = v1 := hv.wide_more hv2 hrm wf0.2 (by show r.2 ≤ r.2 + a4 + far; omega)
    subst ev2
    have S12 := S11.no n12 t12
    refine ⟨_, rfl, rfl, _, rfl, ite2 (fun z => by simp at z) (fun _ => ?_)⟩
    -- any one
    refine ⟨_, rfl, _, rfl, _, _, rfl, rfl, d, c, _, top + 1, rfl, S12.st, by omega, by omega, by omega, fun o H13 o0 o1 st13 k13 => ?_⟩
    have S13 := S12.kp k13 st13
    refine ⟨_, rfl, _, rfl, _, rfl, _, rfl, d, c, _, 9, rfl, st13, by omega, by decide, by decide, fun o2 H14 o20 o21 st14 k14 => ⟨_, _, rfl, rfl, (by show 2 ≤ sizeLine; decide), fun T2 nT2 => ⟨(by show 1 ≤ sizeLine; decide), fun l5 n5 => ?_⟩⟩⟩
    have S14 := S13.kp k14 st14
    have sT2 := same_upd (o := .tup [.int o, .int (o + o2)]) nT2
    have sl5 := same_upd (o := .lst [.ref T2]) n5
    have S15 := (S14.sm sT2).sm sl5
    refine cat_run (w := (o, o + o2)) S15.la (sl5 _ _ upd_same) upd_same (by omega) fun l6 H16 nl6 s16 hl6 => ?_
    have S16 := S15.sm s16
    refine ⟨_, rfl, l6, b, _, gs, rfl, hl6, S16.lb, lrs _, by omega, hro2 _ o0 (by show o ≤ o + o2; omega), hrg, S16.tq, hL, hM, fun H17 v3 n17 t17 hv3 => ?_⟩
    have S17 := S16.no n17 t17
    have fin := q H17 _ S17 (by omega) (by omega)
    refine ⟨_, rfl, rfl, _, rfl, ite2 (fun z => nomatch (of_decide_eq_true z)) (fun _ => ?_)⟩
    obtain ⟨u17, eA17, pr17⟩ := id S17.la
    have lu17 : u17.length = rs.length := pr17.1
    by_cases c : v2 < 0
    · have ev3 := hv.blind_more hv3 c
      subst ev3
      refine ⟨_, rfl, _, _, rfl, rfl, _, rfl, ?_⟩
      rw [decide_eq_true c]
      refine iteT ⟨_, rfl, _, rfl, rfl, _, rfl, ite2 (fun z => by simp at z) (fun _ => ?_)⟩
      refine ⟨_, rfl, _, _, rfl, rfl, _, rfl, ?_⟩
      rw [decide_eq_true c]
      exact iteT fin
    · refine ⟨_, rfl, _, _, rfl, rfl, _, rfl, ?_⟩
      rw [decide_eq_false c]
      refine iteF (ite2 (fun z => nomatch z) (fun _ => ?_))
      refine ⟨_, rfl, _, _, rfl, rfl, _, rfl, ?_⟩
      rw [decide_eq_false c]
      refine iteF ⟨_, rfl, _, rfl, _, rfl, _, _, rfl, rfl, _, rfl, _, rfl, a, _, rfl, .inl (SqL.of eA17), _, _, rfl, rfl, (by show 3 ≤ sizeLine; decide), fun p np => ?_⟩
      have sp := same_upd (o := .tup [.int v2, .int (v2 + 1), .int (-1 - (u17.length : Int))]) np
      have hin : inV (.int v3) [.int v2, .int (v2 + 1), .int (-1 - (u17.length : Int))] = true := by
        rw [lu17]
        have e : ∀ x y : Int, eqV (.int x) (.int y) = (x == y) := fun _ _ => rfl
        unfold inV
        rw [List.any_cons, List.any_cons, List.any_cons, List.any_nil, e, e, e]
        rcases hv.any_more hv3 (by omega) with z | z | z <;> rw [z] <;> simp
      refine ⟨p, _, rfl, .inr (.inl (.inl upd_same)), rfl, rfl, ?_⟩
      rw [hin]
      exact q _ _ (S17.sm sp) (by omega) (by omega)
end

/-! ### the law of k41 -/
theorem seqIx_nat {k n : Nat} (h : k < n) : seqIndex? (k : Int) n = some k := by
  unfold seqIndex?
  have e : ¬ ((k : Int) < 0) := by omega
  simp [e]
  omega
theorem _root_.GP.Prs.erase {H : Hp} {us : List V} {ps : List (Int × Int)} (h : Prs H us ps) (k : Nat) : Prs H (us.eraseIdx k) (ps.eraseIdx k) := by
  have l := h.1
  refine ⟨by rw [List.length_eraseIdx, List.length_eraseIdx, l], fun i p e => ?_⟩
  rw [List.getElem?_eraseIdx] at e ⊢
  split
  · rename_i c
    rw [if_pos c] at e
    exact h.2 i p e
  · rename_i c
    rw [if_neg c] at e
    exact h.2 _ p e
theorem ris_erase : ∀ {lo : Int} {gs : List (Int × Int)} (k : Nat), Ris lo gs → Ris lo (gs.eraseIdx k)
  | _, [], _, _ => True.intro
  | lo, g :: gs, 0, h => h.2.2.mono (by have := h.1; have := h.2.1; omega)
  | lo, g :: gs, k + 1, h => ⟨h.1, h.2.1, ris_erase k h.2.2⟩
theorem find_blind {gs : List (Int × Int)} (hg : ∃ lo, Ris lo gs) : ∀ {rs : List (Int × Int)} {i : Nat} {r : Int × Int}, rs[i]? = some r → allGB gs r = true → (∀ (j : Nat) r', j < i → rs[j]? = some r' → allGB gs r' = false) → ∀ {n : Nat}, i < n → ∃ l, (((List.range n).filter fun k => match rs[k]? with | some q => (leftR gs q).isEmpty | none => false)) = i :: l := fun {rs i r} e h hf {n} hn => by
  obtain ⟨lo, hr⟩ := hg
  have f : ∀ q, (leftR gs q).isEmpty = allGB gs q := fun q => by rw [Bool.eq_iff_iff, List.isEmpty_iff, leftR_nil hr]
  have e1 : List.range n = List.range i ++ (i :: (List.range (n - i - 1)).map (fun k => i + 1 + k)) := by
    have h1 : n = i + (1 + (n - i - 1)) := by omega
    conv => lhs; rw [h1, List.range_add, List.range_add]
    simp [Function.comp_def, Nat.add_assoc]
  rw [e1, List.filter_append, List.filter_cons_of_pos (by rw [e]; show (leftR gs r).isEmpty = true; rw [f, h])]
  have e2 : (List.range i).filter (fun k => match rs[k]? with | some q => (leftR gs q).isEmpty | none => false) = [] := by
    rw [List.filter_eq_nil_iff]
    intro k hk
    have lt := List.mem_range.mp hk
    cases c : rs[k]? with
    | none => exact Bool.false_ne_true
    | some q =>
      show ¬ (leftR gs q).isEmpty = true
      rw [f, hf k q lt c]
      exact Bool.false_ne_true
  rw [e2]
  exact ⟨_, rfl⟩
def spLaw (K : PySem.W.Frag) (Ms : GX.Mq) (Xs : List Addr) (Pl Pn Pr Pb Pe Pa Pi Pf : Addr) : Sp := fun vs H Q _ => ∃ (a : Addr) (ns : List Int), vs = [.ref a] ∧ SqL K H a (ns.map V.int) ∧ ns.length ≤ 63 ∧ GX.TQ Ms Xs H ∧ LamL Ms Pl ∧ PsS Ms Pn Pr Pb Pe Pa Pi Pf ∧ ∀ H', Q (.bl true) H'
abbrev sLaw : Stmt := topS 38
theorem scLaw : FnScope ["_law_script", "_law_state", "_law_runs_here", "_law_gone_here", "_law_due", "_law_top", "_law_wide", "_law_shift", "_law_ordered_here", "_law_found", "_law_blind", "_law_less", "_law_place", "_law_span", "_law_first", "_law_last"] ["_law_script"] (defScope sLaw) := ⟨rfl, rfl, rfl, by decide +kernel, rfl, by decide +kernel, by decide +kernel⟩
section
variable {K : PySem.W.Frag} {mg : Str → Option Value} {P : Program} {w : World} {base : Heap} {Ms : GX.Mq} {Xs : List Addr} {Pl Pn Pr Pb Pe Pa Pi Pf : Addr}
theorem ok_Law {f : Addr} {fd : FuncData} (F : Fun K "law" "law" sLaw f fd) (C__law_begin : Cal P w K mg base 1 "_law_begin" ["_law_script"] (spBegin K)) (C__law_case : Cal P w K mg base 3 "_law_case" ["_law_state"] spCase) (C__law_many : Cal P w K mg base 11 "_law_many" ["_law_runs_here", "_law_gone_here"] (spMany K Ms Xs Pl Pn Pr Pb Pe Pa Pi Pf)) (C__law_turned : Cal P w K mg base 1 "_law_turned" ["_law_pairs", "_law_top"] spTurned) (C__law_great : Cal P w K mg base 2 "_law_great" ["_law_state"] spGreat) (C__law_moved : Cal P w K mg base 1 "_law_moved" ["_law_pairs", "_law_many_here", "_law_shift"] spMoved) (C__law_ordered : Cal P w K mg base 2 "_law_ordered" ["_law_state", "_law_runs_here"] spOrdered) (C__law_left : Cal P w K mg base 1 "_law_left" ["_law_span", "_law_gone_here"] spLLeft) (C__law_more_runs_right : Cal P w K mg base 12 "_law_more_runs_right" ["_law_state", "_law_runs_here", "_law_gone_here", "_law_due", "_law_top"] (spMoreR K Ms Xs Pl Pn Pr Pb Pe Pa Pi Pf)) (C__law_take : Cal P w K mg base 1 "_law_take" ["_law_state", "_law_many_here"] spTake) (m_max : mg "max" = none) (m_enumerate : mg "enumerate" = none) (m_list : mg "list" = none) (m_len : mg "len" = none) : FnOk P w K mg base CX0 13 f fd ["_law_script"] (spLaw K Ms Xs Pl Pn Pr Pb Pe Pa Pi Pf) := by
  refine F.ok scLaw (fun vs H Q E h => ?_) (fun cdv A outer s H vs Q E hr h => ?_)
  · obtain ⟨a, ns, rfl, _⟩ := h
    rfl
  · obtain ⟨a, ns, rfl, hA, hl, hT, hL, hM, q⟩ := h
    refine ⟨_, pss_cons (ps_set (i := 1) scLaw.nd rfl (.inl rfl) (pe_own C__law_begin (hr.mono (show 1 ≤ 12 by decide)) (by rfl) (pa_cons (pv 0) pa_nil)))
      (pss_cons (ps_asg (pe_own C__law_case (hr.mono (show 3 ≤ 12 by decide)) (by rfl) (pa_cons (pv 1) pa_nil)) (pg_tup rfl (pgs_cons (pg_name (i := 2) scLaw.nd rfl (.inl rfl)) (pgs_cons (pg_name (i := 3) scLaw.nd rfl (.inr rfl)) pgs_nil))))
      (pss_cons (ps_set (i := 2) scLaw.nd rfl (.inl rfl) (pe_slice sl_list (pv 2) po_none (po_some pe_int)))
      (pss_cons (ps_par rfl scLaw.nd (i := 4) (j := 5) rfl rfl (by decide) rfl rfl (pa_cons (pe_own C__law_many (hr.mono (show 11 ≤ 12 by decide)) (by rfl) (pa_cons (pv 2) (pa_cons (pv 3) pa_nil))) (pa_cons (pe_callB (cr_max rfl) (by rfl) m_max (by decide +kernel) (pa_cons (pe_lc (own := [("_law_first", 14), ("_law_last", 15)]) (g := (gTup K 2 (gCons (gName 14) (gCons (gName 15) gNil)))) (tt := tYes) (te := (tVar 15)) rfl scLaw.nd (pi_list (pe_op op_cat (pv 2) (pv 3))) (blkOk_by (own := [("_law_first", 14), ("_law_last", 15)]) (N := ["_law_script", "_law_state", "_law_runs_here", "_law_gone_here", "_law_due", "_law_top", "_law_wide", "_law_shift", "_law_ordered_here", "_law_found", "_law_blind", "_law_less", "_law_place", "_law_span", "_law_first", "_law_last"]) (sc := defScope sLaw) (by decide +kernel)) (fun _ _ _ _ _ => (pg_tup rfl (pgs_cons (pg_name (i := 14) scLaw.nd rfl (.inl rfl)) (pgs_cons (pg_name (i := 15) scLaw.nd rfl (.inl rfl)) pgs_nil)))) (fun _ _ _ _ _ => pts_nil) (fun _ _ _ _ _ => (pv 15))) pa_nil)) pa_nil)) (by rfl))
      (pss_cons (ps_if (pt_cmpR op_isN (pv 4) pe_non (nomark _)) (pss_one (ps_ret pe_bl))
        pss_nil)
      (pss_cons (ps_if (pt_cmpR op_ne (pe_own C__law_many (hr.mono (show 11 ≤ 12 by decide)) (by rfl) (pa_cons (pe_own C__law_turned (hr.mono (show 1 ≤ 12 by decide)) (by rfl) (pa_cons (pv 2) (pa_cons (pv 5) pa_nil))) (pa_cons (pe_revL (pe_own C__law_turned (hr.mono (show 1 ≤ 12 by decide)) (by rfl) (pa_cons (pv 3) (pa_cons (pv 5) pa_nil)))) pa_nil))) (pv 4) (nomark _)) (pss_one (ps_ret pe_bl))
        pss_nil)
      (pss_cons (ps_par rfl scLaw.nd (i := 6) (j := 7) rfl rfl (by decide) rfl rfl (pa_cons (pe_op op_add pe_int (pe_own C__law_great (hr.mono (show 2 ≤ 12 by decide)) (by rfl) (pa_cons (pv 1) pa_nil))) (pa_cons (pe_own C__law_great (hr.mono (show 2 ≤ 12 by decide)) (by rfl) (pa_cons (pv 1) pa_nil)) pa_nil)) (by rfl))
      (pss_cons (ps_if (pt_cmpR op_ne (pe_own C__law_many (hr.mono (show 11 ≤ 12 by decide)) (by rfl) (pa_cons (pe_own C__law_moved (hr.mono (show 1 ≤ 12 by decide)) (by rfl) (pa_cons (pv 2) (pa_cons (pv 6) (pa_cons (pv 7) pa_nil)))) (pa_cons (pe_own C__law_moved (hr.mono (show 1 ≤ 12 by decide)) (by rfl) (pa_cons (pv 3) (pa_cons (pv 6) (pa_cons (pv 7) pa_nil)))) pa_nil))) (pv 4) (nomark _)) (pss_one (ps_ret pe_bl))
        pss_nil)
      (pss_cons (ps_set (i := 8) scLaw.nd rfl (.inl rfl) (pe_own C__law_ordered (hr.mono (show 2 ≤ 12 by decide)) (by rfl) (pa_cons (pv 1) (pa_cons (pv 2) pa_nil))))
      (pss_cons (ps_set (i := 9) scLaw.nd rfl (.inl rfl) (pe_own C__law_many (hr.mono (show 11 ≤ 12 by decide)) (by rfl) (pa_cons (pv 8) (pa_cons (pv 3) pa_nil))))
      (Evl.pss_cut (ps_if (pt_cmpR op_lt (pv 4) pe_int (nomark _)) (pss_cons (ps_setLc (i := 10) (own := [("_law_place", 12), ("_law_span", 13)]) (g := (gTup K 2 (gCons (gName 12) (gCons (gName 13) gNil)))) (tt := (tTest (tOp (rEqD K) (tCall spLLeft [] E0 (tCons (tVar 13) (tCons (tVar 3) tNil))) (tLst tNil)))) (te := (tVar 12)) rfl scLaw.nd rfl rfl (sw_true rfl rfl rfl (by decide +kernel)) (pi_enum (by rfl) m_enumerate (pa_cons (pv 8) pa_nil)) (blkOk_by (own := [("_law_place", 12), ("_law_span", 13)]) (N := ["_law_script", "_law_state", "_law_runs_here", "_law_gone_here", "_law_due", "_law_top", "_law_wide", "_law_shift", "_law_ordered_here", "_law_found", "_law_blind", "_law_less", "_law_place", "_law_span", "_law_first", "_law_last"]) (sc := defScope sLaw) (by decide +kernel)) (fun _ _ _ _ _ => (pg_tup rfl (pgs_cons (pg_name (i := 12) scLaw.nd rfl (.inl rfl)) (pgs_cons (pg_name (i := 13) scLaw.nd rfl (.inl rfl)) pgs_nil)))) (fun _ _ _ _ _ => (pts_one (pt_cmpR (op_eqD hr.units) (pe_own C__law_left (hr.mono (show 1 ≤ 12 by decide)) (by rfl) (pa_cons (pv 13) (pa_cons (pv 3) pa_nil))) (pe_lst pa_nil) (nomark _)))) (fun _ _ _ _ _ => (pv 12)))
        (pss_one (ps_if (pt_cmpR op_ne (pv 9) (pe_op op_sub (pe_un un_neg pe_int) (pe_ix ix_list (pv 10) pe_int (fun _ _ => rfl))) (nomark _)) (pss_one (ps_ret pe_bl))
          pss_nil)))
        (pss_one (ps_if (pt_cmpR op_ne (pv 9) (pv 4) (nomark _)) (pss_one (ps_ret pe_bl))
          pss_nil)))
      (pss_cons (ps_if (pt_not (pt_val (pe_own C__law_more_runs_right hr (by rfl) (pa_cons (pv 1) (pa_cons (pv 2) (pa_cons (pv 3) (pa_cons (pv 4) (pa_cons (pv 5) pa_nil)))))))) (pss_one (ps_ret pe_bl))
        pss_nil)
      (pss_cons (ps_set (i := 11) scLaw.nd rfl (.inl rfl) (pe_callTy call_list_of (by rfl) m_list (by decide +kernel) (pa_cons (pv 3) pa_nil)))
      (Evl.pss_cut (ps_if (pt_cmpR (op_neD hr.units) (pv 11) (pe_lst pa_nil) (nomark _)) (pss_one (ps_expr (pe_bm PySem.F.plainAttrs_list PySem.F.slot_list_pop PySem.F.type_list_pop mt_popAt (pv 11) (pa_cons (pe_own C__law_take (hr.mono (show 1 ≤ 12 by decide)) (by rfl) (pa_cons (pv 1) (pa_cons (pe_callB call_len_seq (by rfl) m_len PySem.boot_len (pa_cons (pv 11) pa_nil)) pa_nil))) pa_nil))))
        pss_nil)
      (pss_cons (ps_set (i := 9) scLaw.nd rfl (.inl rfl) (pe_own C__law_many (hr.mono (show 11 ≤ 12 by decide)) (by rfl) (pa_cons (pv 2) (pa_cons (pv 11) pa_nil))))
      (pss_one (ps_ret (pe_and (pe_cmpR op_notN (pv 9) pe_non (nomark _)) (pe_one (pe_or (pe_cmpR op_lt (pv 4) pe_int (nomark _)) (pe_one (pe_chain op_le op_le pe_int (pv 9) (pv 4)))))))))))))))))))))), ?_⟩
    refine ⟨.ref a, rfl, a, ns, rfl, hA, hl, fun d c H1 s1 nd nc hS1 => ?_⟩
    have hT1 := hT.same s1
    refine ⟨_, rfl, d, c, _, rfl, hS1, by decide, fun T l r rs0 gs t2 H2 eT eL eR hr1 hrz hgz hro0 hgo hrg offl offr v0 v1 hS2 k2 => ?_⟩
    have hT2 := tq_kp hT1 hS1 k2
    refine ⟨T, _, rfl, .inl (.inl eT), rfl, _, _, rfl, _, _, rfl, rfl, ?_⟩
    obtain ⟨ul, eL', pl0⟩ := id eL
    obtain ⟨us, eu, pr⟩ := id eR
    refine ⟨_, rfl, _, rfl, l, _, rfl, SqL.of eL', fun l2 nl2 => ?_⟩
    rw [show (some (22 : Int)) = some ((22 : Nat) : Int) from rfl, cut_front]
    have sl2 := same_upd (o := .lst (ul.take 22)) nl2
    have hl2 : LsA (upd H2 l2 (.lst (ul.take 22))) l2 (rs0.take 22) := ⟨_, upd_same, (pl0.same sl2).take 22⟩
    have offl2 := hS2.off nl2
    generalize upd H2 l2 (.lst (ul.take 22)) = H3 at sl2 hl2
    obtain ⟨rs, ers⟩ : ∃ rs, rs = rs0.take 22 := ⟨_, rfl⟩
    rw [← ers] at hl2
    have S3 : WS Ms Xs d c l2 r rs gs t2 H3 := ⟨hS2.same sl2, hT2.same sl2, hl2, eR.same sl2, offl2, offr⟩
    have hrs1 : 1 ≤ rs.length := by rw [ers, List.length_take]; omega
    have hrs22 : rs.length ≤ 22 := by rw [ers, List.length_take]; omega
    have hro : ∀ r ∈ rs, 0 ≤ r.1 ∧ r.1 ≤ r.2 ∧ r.2 < 10 ^ 38 := fun r hr => hro0 r (List.mem_of_mem_take (ers ▸ hr))
    have hro2 : ∀ r ∈ rs, 0 ≤ r.1 ∧ r.1 ≤ r.2 := fun r hr => ⟨(hro r hr).1, (hro r hr).2.1⟩
    clear hro0
    have hg0 := hrg.nn (by decide)
    -- how many
    refine ⟨_, rfl, _, rfl, l2, r, rs, gs, rfl, S3.la, S3.lb, by omega, by omega, hro2, hrg, S3.tq, hL, hM, fun H4 v n4 t4 hv => ?_⟩
    have S4 := S3.no n4 t4
    obtain ⟨u4, eA4, pr4⟩ := id S4.la
    obtain ⟨w4, eB4, pw4⟩ := id S4.lb
    refine ⟨_, rfl, _, rfl, l2, r, _, _, rfl, rfl, eA4, eB4, Nat.le_trans (by have := pr4.1; have := pw4.1; omega : _ ≤ 1000) (by decide), fun C nC => ⟨C, rfl, ⟨_, SqL.of upd_same⟩, fun G nG => ?_⟩⟩
    have sC := same_upd (o := .lst (u4 ++ w4)) nC
    have pC := (pr4.same sC).append (pw4.same sC)
    have lC := pC.1
    have eC : upd H4 C (.lst (u4 ++ w4)) C = some (.lst (u4 ++ w4)) := upd_same
    generalize upd H4 C (.lst (u4 ++ w4)) = H5 at sC pC eC nG
    refine lc_list (xs := u4 ++ w4) (fun j H' => Same H5 H' ∧ H' G = some (.lst ((((rs ++ gs).take j).map fun p => p.2).map V.int))) ⟨same_upd nG, upd_same⟩ (fun j H' _ hP => SqL.of (hP.1 _ _ eC)) (fun j x H' hx hP => ?_) (fun H6 hP => ?_)
    · obtain ⟨sm, eG⟩ := hP
      obtain ⟨g, T2, eg, rfl, eT2⟩ := prs_at pC hx
      refine ⟨T2, _, rfl, .inl (.inl (sm _ _ eT2)), rfl, _, _, rfl, _, _, rfl, rfl, rfl, _, rfl, _, eG, small1000 (by rw [List.length_map, List.length_map, List.length_take, List.length_append]; omega), fun b' o e => ?_, ?_⟩
      · rw [upd_ne (ne_of_none e nG)]
        exact sm b' o e
      · rw [upd_same, List.take_add_one, eg, List.map_append, List.map_append]
        rfl
    obtain ⟨s6, eG⟩ := hP
    rw [lC, List.take_length] at eG
    have S6 := (S4.sm sC).sm s6
    refine ⟨G, _, rfl, SqL.of eG, ?_⟩
    refine ⟨by rw [List.length_map, List.length_append]; omega, fun top htm htx => ⟨_, _, rfl, ?_⟩⟩
    have hrt : ∀ r ∈ rs, r.2 ≤ top := fun r hr => htx _ (List.mem_map_of_mem (List.mem_append_left _ hr))
    have hgt : ∀ g ∈ gs, g.2 ≤ top := fun g hg => htx _ (List.mem_map_of_mem (List.mem_append_right _ hg))
    obtain ⟨tp0, tp1⟩ : 0 ≤ top ∧ top < 10 ^ 38 := by
      obtain ⟨p, hp, rfl⟩ := List.mem_map.mp htm
      rcases List.mem_append.mp hp with z | z
      · have := hro p z
        exact ⟨by omega, by omega⟩
      · have := hgo p z
        have := hg0 p z
        exact ⟨by omega, by omega⟩
    refine ⟨_, rfl, rfl, _, rfl, ite2 (fun z => nomatch (of_decide_eq_true z)) (fun _ => ?_)⟩
    -- turned about
    refine ⟨_, rfl, _, rfl, l2, top, rs, rfl, S6.la, by omega, fun x1 H7 nx1 hx1 s7 => ?_⟩
    refine ⟨_, rfl, _, rfl, r, top, gs, rfl, S6.lb.same s7, by omega, fun x2 H8 nx2 hx2 s8 => ?_⟩
    obtain ⟨ux2, ex2, px2⟩ := id hx2
    refine ⟨x2, _, rfl, SqL.of ex2, fun x3 nx3 => ?_⟩
    have s9 := same_upd (o := .lst ux2.reverse) nx3
    have hx3 : LsA (upd H8 x3 (.lst ux2.reverse)) x3 (gs.map (turnP top)).reverse := ⟨_, upd_same, (px2.same s9).reverse⟩
    generalize upd H8 x3 (.lst ux2.reverse) = H9 at s9 hx3
    have s69 := (s7.trans s8).trans s9
    have S9 := S6.sm s69
    refine ⟨x1, x3, _, _, rfl, (hx1.same s8).same s9, hx3, by rw [List.length_map]; omega, by rw [List.length_reverse, List.length_map]; omega, fun q hq => ?_, turn_ris hrg hgt, S9.tq, hL, hM, fun H10 v1 n10 t10 hv1 => ?_⟩
    · obtain ⟨p, hp, rfl⟩ := List.mem_map.mp hq
      have := hro p hp
      have := hrt p hp
      exact ⟨by show 0 ≤ top - p.2; omega, by show top - p.2 ≤ top - p.1; omega⟩
    have ev1 := turn_corr.many hv hv1
    subst ev1
    have S10 := S9.no n10 t10
    refine ⟨_, rfl, rfl, _, rfl, ite2 (fun z => by simp at z) (fun _ => ?_)⟩
    -- each as many, shifted
    refine ⟨_, rfl, d, c, _, rfl, S10.st, by omega, fun m H11 m0 m1 st11 k11 => ⟨1, m, rfl, rfl, ?_⟩⟩
    have S11 := S10.kp k11 st11
    refine ⟨_, rfl, d, c, _, rfl, st11, by omega, fun sh H12 sh0 sh1 st12 k12 => ⟨_, _, rfl, ?_⟩⟩
    have S12 := S11.kp k12 st12
    refine ⟨_, rfl, _, rfl, _, rfl, l2, 1 + m, sh, rs, rfl, S12.la, by omega, by omega, by omega, by omega, by omega, fun p hp => by have := hro p hp; omega, fun z1 H13 nz1 hz1 s13 => ?_⟩
    refine ⟨_, rfl, _, rfl, _, rfl, r, 1 + m, sh, gs, rfl, S12.lb.same s13, by omega, by omega, by omega, by omega, by omega, fun p hp => by have := hgo p hp; have := hg0 p hp; omega, fun z2 H14 nz2 hz2 s14 => ?_⟩
    have S14 := S12.sm (s13.trans s14)
    have m1' : 1 ≤ 1 + m := by omega
    refine ⟨z1, z2, _, _, rfl, hz1.same s14, hz2, by unfold movedF; rw [List.length_map]; omega, by unfold movedF; rw [List.length_map]; omega, fun q hq => ?_, (ris_moved m1' sh0 hrg).mono (by omega), S14.tq, hL, hM, fun H15 v2 n15 t15 hv2 => ?_⟩
    · obtain ⟨p, hp, rfl⟩ := List.mem_map.mp hq
      have h1 := hro p hp
      have := moved_ok (m := 1 + m) (s := sh) (B := top) (C := 1 + m) m1' sh0 h1.1 h1.2.1 (hrt p hp) (Int.le_refl _)
      exact ⟨this.1, this.2.1⟩
    have ev2 := (moved_corr m1').many hv hv2
    subst ev2
    have S15 := S14.no n15 t15
    refine ⟨_, rfl, rfl, _, rfl, ite2 (fun z => by simp at z) (fun _ => ?_)⟩
    -- in another order
    refine ⟨_, rfl, _, rfl, d, c, l2, _, rs, rfl, S15.st, by omega, S15.la, S15.oa.1, S15.oa.2, by omega, fun od H16 rs' t16 nod hmem hlen hod u0 u1 st16 k16 => ?_⟩
    have S16 := S15.kp k16 st16
    have hro' : ∀ r ∈ rs', 0 ≤ r.1 ∧ r.1 ≤ r.2 := fun r hr => hro2 r ((hmem r).mpr hr)
    refine ⟨_, rfl, _, rfl, od, r, rs', gs, rfl, hod, S16.lb, by omega, by omega, hro', hrg, S16.tq, hL, hM, fun H17 v3 n17 t17 hv3 => ?_⟩
    have S17 := S16.no n17 t17
    have hod17 := hod.noTab n17
    refine ⟨fun σ' H' => ∃ (y6 y7 y8 y9 y10 y11 y12 y13 y14 y15 : Option V), σ' = [some (.ref a), some (.ref d), some (.ref l2), some (.ref r), some (.int v2), some (.int top), y6, y7, y8, y9, y10, y11, y12, y13, y14, y15] ∧ WS Ms Xs d c l2 r rs gs t16 H', ?_, fun σ' H18 hM18 => ?_⟩
    · have eo17 := hod17
      obtain ⟨uo, eo, po⟩ := id hod17
      have luo : uo.length = rs'.length := po.1
      by_cases c : v2 < 0
      · obtain ⟨i0, r0, g1, g2, g3, _⟩ := hv.neg c
        have hb' : ∃ r ∈ rs', allGB gs r = true := ⟨r0, (hmem r0).mp (List.mem_of_getElem? g1), g2⟩
        have c3 : v3 < 0 := by
          refine Int.not_le.mp fun z => ?_
          obtain ⟨x, hx, hx2⟩ := hb'
          rw [(hv3.pos z).1 x hx] at hx2
          cases hx2
        obtain ⟨i1, r1, f1, f2, f3, ev3⟩ := hv3.neg c3
        obtain ⟨bl, ebl⟩ := find_blind ⟨0, hrg⟩ f1 f2 f3 (n := rs'.length) (List.getElem?_eq_some_iff.mp f1).1
        refine ⟨_, rfl, _, _, rfl, rfl, _, rfl, ?_⟩
        rw [decide_eq_true c]
        refine iteT ?_
        refine ⟨_, rfl, od, _, rfl, SqL.of eo, fun G2 nG2 => lc_it (walk_enum (xs := uo)) (fun j H' => Same H17 H' ∧ H' G2 = some (.lst (((List.range j).filter fun k => match rs'[k]? with | some q => (leftR gs q).isEmpty | none => false).map fun k : Nat => V.int (k : Int)))) ⟨same_upd nG2, upd_same⟩ (fun j H' _ hP => SqL.of (hP.1 _ _ eo)) (fun j x H' H'' hj hP hy => ?_) (fun H18 hP => ?_)⟩
        · obtain ⟨sm, eG⟩ := hP
          obtain ⟨T4, u, v, rfl, nT4, rfl, e1, e2⟩ := hy
          cases e1
          have e2 : uo[j]? = some v := e2
          obtain ⟨q, Tq, eq, rfl, eTq⟩ := prs_at po e2
          have s4 := same_upd (o := .tup [.int (j : Nat), .ref Tq]) nT4
          have smT := sm.trans s4
          have jl : j < rs'.length := (List.getElem?_eq_some_iff.mp eq).1
          have ln : (((List.range j).filter fun k => match rs'[k]? with | some q => (leftR gs q).isEmpty | none => false).map fun k : Nat => V.int (k : Int)).length < sizeLine := small1000 (by
            rw [List.length_map]
            refine Nat.le_trans (List.length_filter_le ..) ?_
            rw [List.length_range]
            omega)
          have efil : ∀ b, (leftR gs q).isEmpty = b → ((List.range (j + 1)).filter fun k => match rs'[k]? with | some q => (leftR gs q).isEmpty | none => false) = ((List.range j).filter fun k => match rs'[k]? with | some q => (leftR gs q).isEmpty | none => false) ++ (if b = true then [j] else []) := fun b hb => by
            rw [List.range_succ, List.filter_append]
            congr 1
            rw [List.filter_cons, eq, List.filter_nil]
            show (if (leftR gs q).isEmpty = true then [j] else []) = _
            rw [hb]
          refine ⟨T4, _, rfl, .inl (.inl upd_same), rfl, _, _, rfl, _, _, rfl, rfl, rfl, ?_⟩
          refine ⟨_, rfl, _, rfl, Tq, r, q, gs, rfl, smT _ _ eTq, S17.lb.same smT, by omega, fun x5 H5 nx5 hx5 s5 => ⟨Nat.zero_le _, fun E5 nE5 => ?_⟩⟩
          have sE5 := same_upd (o := .lst []) nE5
          refine ⟨_, .list [], (hx5.same sE5).dp, .lst (SqL.of upd_same) .nil, shaped_prs _, by rfl, ?_⟩
          rw [eqv_none]
          have s45 := (s4.trans s5).trans sE5
          cases hb : (leftR gs q).isEmpty with
          | true =>
            refine ⟨_, rfl, iteT ⟨_, rfl, _, s45 _ _ eG, ln, fun b' o e => ?_, ?_⟩⟩
            · rw [upd_ne (ne_of_none e nG2)]
              exact s45 _ _ (sm b' o e)
            · rw [upd_same, efil true hb, List.map_append]
              rfl
          | false =>
            refine ⟨_, rfl, iteF ⟨sm.trans s45, ?_⟩⟩
            rw [efil false hb, if_neg Bool.false_ne_true, List.append_nil]
            exact s45 _ _ eG
        · obtain ⟨sm, eG⟩ := hP
          rw [luo, ebl] at eG
          refine ⟨_, rfl, _, rfl, _, rfl, G2, _, 0, _, rfl, rfl, SqL.of eG, atI_nat (j := 0) rfl, _, _, rfl, rfl, rfl, _, rfl, ite2 (fun z => ?_) (fun _ => ?_)⟩
          · rw [ev3] at z
            simp at z
          · exact ⟨_, _, _, _, _, _, _, _, _, _, rfl, S17.sm sm⟩
      · refine ⟨_, rfl, _, _, rfl, rfl, _, rfl, ?_⟩
        rw [decide_eq_false c]
        obtain ⟨a1, n1, ev, a2⟩ := hv.pos (by omega)
        have ev3 : v3 = v2 := by
          rcases hv3 with ⟨i', r', f1, f2, _⟩ | ⟨_, n2, e3, b2⟩
          · rw [a1 r' ((hmem r').mpr (List.mem_of_getElem? f1))] at f2
            cases f2
          · rw [e3, ev, a2.perm b2 hmem]
        refine iteF ⟨_, rfl, _, rfl, rfl, _, rfl, ite2 (fun z => ?_) (fun _ => ?_)⟩
        · rw [ev3] at z
          simp at z
        · exact ⟨_, _, _, _, _, _, _, _, _, _, rfl, S17⟩
    · obtain ⟨y6, y7, y8, y9, y10, y11, y12, y13, y14, y15, rfl, S18⟩ := hM18
      refine ⟨_, rfl, _, rfl, _, rfl, _, rfl, _, rfl, d, c, l2, r, rs, gs, _, v2, top, rfl, S18, by omega, by omega, by omega, by omega, hro2, hrg, hv, tp0, tp1, hL, hM, fun H19 t19 S19 w0 w1 => ⟨_, rfl, ite2 (fun z => nomatch z) (fun _ => ?_)⟩⟩
      obtain ⟨u19, e19, p19⟩ := id S19.lb
      have lu19 : u19.length = gs.length := p19.1
      refine ⟨_, rfl, r, _, rfl, .inl (SqL.of e19), fun le nle => ?_⟩
      have s20 := same_upd (o := .lst u19) nle
      have hle : LsA (upd H19 le (.lst u19)) le gs := ⟨_, upd_same, p19.same s20⟩
      have ele : upd H19 le (.lst u19) le = some (.lst u19) := upd_same
      have offle := S19.st.off nle
      have S20 := S19.sm s20
      refine ⟨fun σ' H' => ∃ (t : Int) (gs' : List (Int × Int)) (y9 : Option V), σ' = [some (.ref a), some (.ref d), some (.ref l2), some (.ref r), some (.int v2), some (.int top), y6, y7, y8, y9, y10, some (.ref le), y12, y13, y14, y15] ∧ WS Ms Xs d c l2 r rs gs t H' ∧ LsA H' le gs' ∧ (∀ e, InS gs' e → InS gs e) ∧ Ris 0 gs' ∧ gs'.length ≤ 24, ?_, fun σ' H21 hM21 => ?_⟩
      · refine ⟨_, rfl, Nat.zero_le _, fun E nE => ?_⟩
        have sE := same_upd (o := .lst []) nE
        have S21 := S20.sm sE
        refine ne_nilP (hle.same sE) upd_same ⟨_, rfl, ite2 (fun c2 => ?_) (fun c2 => ?_)⟩
        · have pos : 0 < gs.length := by
            cases gs with
            | nil => cases c2
            | cons => simp
          have ele' := sE _ _ ele
          refine ⟨_, rfl, .inl ⟨rfl, _, SqL.of ele'⟩, _, rfl, _, rfl, le, _, rfl, .inl (SqL.of ele'), d, c, _, (gs.length : Int), by rw [lu19]; rfl, S21.st, by omega, by omega, by omega, fun x H22 x0 x1 st22 k22 => ?_⟩
          have S22 := S21.kp k22 st22
          obtain ⟨j, rfl⟩ := Int.eq_ofNat_of_zero_le x0
          have hj : j < u19.length := by omega
          have ele2 := k22 _ _ offle.1 offle.2 ele'
          have hle22 := (hle.same sE).kp S21.st k22 offle
          obtain ⟨uz, ez, pz⟩ := id hle22
          rw [ele2] at ez
          cases ez
          refine ⟨le, _, (j : Int), j, _, rfl, rfl, ele2, by omega, by omega, seqIx_nat hj, List.getElem?_eq_getElem hj, ?_⟩
          have nle19 : H19 le = none := nle
          have pN : ∀ {vs : List V} {ps : List (Int × Int)}, Prs H22 vs ps → Prs (upd H22 le (.lst (u19.eraseIdx j))) vs ps := fun p => p.upd_lst ele2
          refine ⟨_, gs.eraseIdx j, _, rfl, ⟨S22.st.upd offle.1 offle.2, S22.tq.upd ele2, ?_, ?_, S22.oa, S22.ob⟩, ⟨_, upd_same, pN (pz.erase j)⟩, fun e he => ?_, ris_erase j hrg, Nat.le_trans (List.length_eraseIdx_le ..) hgz⟩
          · obtain ⟨ux, ex, px⟩ := S22.la
            obtain ⟨uy, ey, _⟩ := S19.la
            have ne : l2 ≠ le := fun z => by rw [z, nle19] at ey; cases ey
            exact ⟨ux, by rw [upd_ne ne]; exact ex, pN px⟩
          · obtain ⟨ux, ex, px⟩ := S22.lb
            have ne : r ≠ le := fun z => by rw [z, nle19] at e19; cases e19
            exact ⟨ux, by rw [upd_ne ne]; exact ex, pN px⟩
          · obtain ⟨g, hg, h1⟩ := he
            exact ⟨g, List.mem_of_mem_eraseIdx hg, h1⟩
        · exact ⟨_, gs, _, rfl, S21, hle.same sE, fun e he => he, hrg, hgz⟩
      · obtain ⟨t21, gs', y9', rfl, S21, hg21, hsub, hris, hgl⟩ := hM21
        refine ⟨_, rfl, _, rfl, l2, le, rs, gs', rfl, S21.la, hg21, by omega, by omega, hro2, hris, S21.tq, hL, hM, fun H22 v4 n22 t22 hv4 => ?_⟩
        refine ⟨_, rfl, rfl, _, rfl, ?_⟩
        rw [decide_eq_false (fun z => nomatch z)]
        refine iteT ?_
        by_cases c : v2 < 0
        · refine ⟨_, rfl, _, _, rfl, rfl, _, rfl, ?_⟩
          rw [decide_eq_true c]
          exact iteT (q H22)
        · obtain ⟨z1, z2⟩ := hv.less hv4 hsub (by omega)
          refine ⟨_, rfl, _, _, rfl, rfl, _, rfl, ?_⟩
          rw [decide_eq_false c]
          refine iteF ⟨_, rfl, 0, v4, rfl, rfl, _, rfl, ?_⟩
          rw [decide_eq_true z1]
          refine iteT ⟨_, rfl, _, _, rfl, rfl, ?_⟩
          show Q (.bl (decide (v4 ≤ v2))) H22
          rw [decide_eq_true z2]
          exact q H22
end

/-! ### the end: what the top has left, the tables of code objects among it -/
/-- each def of the text has a code object with an empty table -/
def Tabs (q : Program) (mg : Str → Option Value) (h : Heap) : Prop := ∀ dr ∈ recsOf q, ∃ (f : Addr) (o : Obj) (fd : FuncData) (c P : Addr), mg dr.name = some (.ref f) ∧ h.get? f = some o ∧ o.data = .func fd ∧ fd.code = .ref c ∧ PySem.W.CodeHd h c P ∧ h.get? P = some (PySem.W.tabObj #[])
theorem tab_in {q : Program} {mg : Str → Option Value} {h : Heap} {K : PySem.W.Frag} {y : Str} {f c P : Addr} {oc e : Value} {od dd : Option Addr} {fd : FuncData} {osl sl : Array (Option Value)} {vs : Array Value} (TT : Tabs q mg h) (X : K.In h) (rec : ((recsOf q).any fun r => r.name == y) = true)
    (g : mg y = some (.ref f)) (lf : K.lookup f = some ⟨oc, od, .func fd, osl⟩) (hc : fd.code = .ref c) (lc : K.lookup c = some ⟨e, dd, .fields vs, sl⟩) (v : vs[11]? = some (.ref P)) : PySem.W.CodeHd h c P ∧ h.get? P = some (PySem.W.tabObj #[]) := by
  obtain ⟨dr, mem, nm⟩ := List.any_eq_true.mp rec
  obtain ⟨f', o', fd', c', P', t1, t2, t3, t4, t5, t6⟩ := TT dr mem
  have ef : f' = f := by
    rw [beq_iff_eq.mp nm, g] at t1
    exact (Value.ref.inj (Option.some.inj t1)).symm
  rw [ef, X _ _ lf] at t2
  rw [← Option.some.inj t2] at t3
  have efd : fd = fd' := Data.func.inj t3
  rw [← efd, hc] at t4
  have ec : c = c' := Value.ref.inj t4
  rw [← ec] at t5
  have t5' := t5
  obtain ⟨oc', us, _, _, _, _, _, _, _, u1, _, u3, u4, _⟩ := t5'
  rw [X _ _ lc] at u1
  rw [← Option.some.inj u1] at u3
  have eu : vs = us := Data.fields.inj u3
  rw [← eu, v] at u4
  have eP : P = P' := Value.ref.inj (Option.some.inj u4)
  rw [eP]
  exact ⟨t5, t6⟩
theorem law_end {l : PySem.W.OpenLaw} {k : Nat} {q : Program} {loose : List Str} {XP : (Str → Option Value) → Heap → Prop} {YP : World → Heap → Prop} {d : DefRec} {K : Params → PySem.W.Frag} (most : l.most = some 63) (plain : d.params.defaults = []) (room : Room k callerA)
    (part : ∀ w h, YP w h → (K w.params).In h) (made : ∀ (w : World) (mg : Str → Option Value) (f : Addr) (h : Heap), (K w.params).In h → h.Ns mainGlobals mg → mg d.name = some (.ref f) → Tabs q mg h → LamX.LawAtS l w (K w.params) CX0 k 63 "_law_script" mg f h) : PySem.W.WalkO q loose XP YP l.row.toRowW d [] (fun f vs => PySem.call f vs) := by
  refine Att.attach_callB most plain ?_
  intro w _ s₁ mg _ f _ _ _ _ a vs ns ground said _ _ _ name script nums len size still
  have X := part w _ said
  have tabs : Tabs q mg s₁.heap := fun dr mem => by
    obtain ⟨f', o', fd', c', P', t1, t2, t3, t4, t5, t6⟩ := ground.T.tab dr mem
    exact ⟨f', o', fd', c', P', t1, t2, t3, t4, PySem.W.CodeHd.of t5 t6, t6.2⟩
  obtain ⟨fd, cs, sp, e1, e2, e3, e4, e5, e6⟩ := made w mg f _ X ground.T.g name tabs
  exact LamX.law_callTs X ground.T.g ground.T.b ground.T.builtins ground.T.nolimit still e1 e2 e3 ground.T.bmain script nums (Nat.le_trans len (by decide)) room e6 e4 (fun H z1 z2 => e5 H a ns len size z1 z2) fun _ _ _ z => z

theorem all_mk {l : PySem.W.OpenLaw} {q : Program} {w : World} {K : PySem.W.Frag} {h : Heap} {mg : Str → Option Value} {fa f0 f1 f2 f3 f4 f5 f6 f7 f8 f9 f10 f11 f12 f13 f14 f15 f16 f17 f18 f19 f20 f21 f22 f23 f24 f25 f26 f27 f28 f29 f30 f31 f32 f33 : Addr} {c4 P4 c5 P5 c9 P9 c10 P10 c11 P11 c12 P12 c13 P13 c15 P15 : Addr} (X : K.In h) (G : h.Ns mainGlobals mg) (hfa : mg "law" = some (.ref fa)) (TT : Tabs q mg h)
    {od0 an0 od1 an1 od2 an2 od3 an3 od4 an4 od5 an5 od6 an6 od7 an7 od8 an8 od9 an9 od10 an10 od11 an11 od12 an12 od13 an13 od14 an14 od15 an15 od16 an16 od17 an17 od18 an18 od19 an19 od20 an20 od21 an21 od22 an22 od23 an23 od24 an24 od25 an25 od26 an26 od27 an27 od28 an28 od29 an29 od30 an30 od31 an31 od32 an32 od33 an33 : Option Addr} {sl0 sl1 sl2 sl3 sl4 sl5 sl6 sl7 sl8 sl9 sl10 sl11 sl12 sl13 sl14 sl15 sl16 sl17 sl18 sl19 sl20 sl21 sl22 sl23 sl24 sl25 sl26 sl27 sl28 sl29 sl30 sl31 sl32 sl33 : Array (Option Value)} {oc0 kV0 dc0 pm0 ct0 cd0 oc1 kV1 dc1 pm1 ct1 cd1 oc2 kV2 dc2 pm2 ct2 cd2 oc3 kV3 dc3 pm3 ct3 cd3 oc4 kV4 dc4 pm4 ct4 oc5 kV5 dc5 pm5 ct5 oc6 kV6 dc6 pm6 ct6 cd6 oc7 kV7 dc7 pm7 ct7 cd7 oc8 kV8 dc8 pm8 ct8 cd8 oc9 kV9 dc9 pm9 ct9 oc10 kV10 dc10 pm10 ct10 oc11 kV11 dc11 pm11 ct11 oc12 kV12 dc12 pm12 ct12 oc13 kV13 dc13 pm13 ct13 oc14 kV14 dc14 pm14 ct14 cd14 oc15 kV15 dc15 pm15 ct15 oc16 kV16 dc16 pm16 ct16 cd16 oc17 kV17 dc17 pm17 ct17 cd17 oc18 kV18 dc18 pm18 ct18 cd18 oc19 kV19 dc19 pm19 ct19 cd19 oc20 kV20 dc20 pm20 ct20 cd20 oc21 kV21 dc21 pm21 ct21 cd21 oc22 kV22 dc22 pm22 ct22 cd22 oc23 kV23 dc23 pm23 ct23 cd23 oc24 kV24 dc24 pm24 ct24 cd24 oc25 kV25 dc25 pm25 ct25 cd25 oc26 kV26 dc26 pm26 ct26 cd26 oc27 kV27 dc27 pm27 ct27 cd27 oc28 kV28 dc28 pm28 ct28 cd28 oc29 kV29 dc29 pm29 ct29 cd29 oc30 kV30 dc30 pm30 ct30 cd30 oc31 kV31 dc31 pm31 ct31 cd31 oc32 kV32 dc32 pm32 ct32 cd32 oc33 kV33 dc33 pm33 ct33 cd33 : Value}
    {e4 : Value} {dd4 : Option Addr} {vs4 : Array Value} {sc4 : Array (Option Value)} {e5 : Value} {dd5 : Option Addr} {vs5 : Array Value} {sc5 : Array (Option Value)} {e9 : Value} {dd9 : Option Addr} {vs9 : Array Value} {sc9 : Array (Option Value)} {e10 : Value} {dd10 : Option Addr} {vs10 : Array Value} {sc10 : Array (Option Value)} {e11 : Value} {dd11 : Option Addr} {vs11 : Array Value} {sc11 : Array (Option Value)} {e12 : Value} {dd12 : Option Addr} {vs12 : Array Value} {sc12 : Array (Option Value)} {e13 : Value} {dd13 : Option Addr} {vs13 : Array Value} {sc13 : Array (Option Value)} {e15 : Value} {dd15 : Option Addr} {vs15 : Array Value} {sc15 : Array (Option Value)}
    (a0 : PySem.W.nsIn K mainGlobals "set_of" = some (some (.ref f0))) (l0 : K.lookup f0 = some ⟨oc0, od0, .func (PySem.W.fnOf "set_of" "set_of" (defArgs sSetOf) (defBody sSetOf) (defScope sSetOf) .none kV0 dc0 pm0 an0 cd0 ct0), sl0⟩) (c0' : PySem.W.codeIn K cd0 "set_of" = true) (k0 : PySem.W.keepIn K (.ref f0) = true)
    (a1 : PySem.W.nsIn K mainGlobals "both_of" = some (some (.ref f1))) (l1 : K.lookup f1 = some ⟨oc1, od1, .func (PySem.W.fnOf "both_of" "both_of" (defArgs sBoth) (defBody sBoth) (defScope sBoth) .none kV1 dc1 pm1 an1 cd1 ct1), sl1⟩) (c1' : PySem.W.codeIn K cd1 "both_of" = true) (k1 : PySem.W.keepIn K (.ref f1) = true)
    (a2 : PySem.W.nsIn K mainGlobals "gaps_of" = some (some (.ref f2))) (l2 : K.lookup f2 = some ⟨oc2, od2, .func (PySem.W.fnOf "gaps_of" "gaps_of" (defArgs sGaps) (defBody sGaps) (defScope sGaps) .none kV2 dc2 pm2 an2 cd2 ct2), sl2⟩) (c2' : PySem.W.codeIn K cd2 "gaps_of" = true) (k2 : PySem.W.keepIn K (.ref f2) = true)
    (a3 : PySem.W.nsIn K mainGlobals "without" = some (some (.ref f3))) (l3 : K.lookup f3 = some ⟨oc3, od3, .func (PySem.W.fnOf "without" "without" (defArgs sWithout) (defBody sWithout) (defScope sWithout) .none kV3 dc3 pm3 an3 cd3 ct3), sl3⟩) (c3' : PySem.W.codeIn K cd3 "without" = true) (k3 : PySem.W.keepIn K (.ref f3) = true)
    (a4 : PySem.W.nsIn K mainGlobals "is_in" = some (some (.ref f4))) (l4 : K.lookup f4 = some ⟨oc4, od4, .func (PySem.W.fnOf "is_in" "is_in" (defArgs sIsIn) (defBody sIsIn) (defScope sIsIn) .none kV4 dc4 pm4 an4 (.ref c4) ct4), sl4⟩) (c4' : PySem.W.codeIn K (.ref c4) "is_in" = true) (k4 : PySem.W.keepIn K (.ref f4) = true)
    (a5 : PySem.W.nsIn K mainGlobals "least_samples" = some (some (.ref f5))) (l5 : K.lookup f5 = some ⟨oc5, od5, .func (PySem.W.fnOf "least_samples" "least_samples" (defArgs sLeast) (defBody sLeast) (defScope sLeast) .none kV5 dc5 pm5 an5 (.ref c5) ct5), sl5⟩) (c5' : PySem.W.codeIn K (.ref c5) "least_samples" = true) (k5 : PySem.W.keepIn K (.ref f5) = true)
    (a6 : PySem.W.nsIn K mainGlobals "is_row" = some (some (.ref f6))) (l6 : K.lookup f6 = some ⟨oc6, od6, .func (PySem.W.fnOf "is_row" "is_row" (defArgs sIsRow) (defBody sIsRow) (defScope sIsRow) .none kV6 dc6 pm6 an6 cd6 ct6), sl6⟩) (c6' : PySem.W.codeIn K cd6 "is_row" = true) (k6 : PySem.W.keepIn K (.ref f6) = true)
    (a7 : PySem.W.nsIn K mainGlobals "is_tuple_of" = some (some (.ref f7))) (l7 : K.lookup f7 = some ⟨oc7, od7, .func (PySem.W.fnOf "is_tuple_of" "is_tuple_of" (defArgs sTupOf) (defBody sTupOf) (defScope sTupOf) .none kV7 dc7 pm7 an7 cd7 ct7), sl7⟩) (c7' : PySem.W.codeIn K cd7 "is_tuple_of" = true) (k7 : PySem.W.keepIn K (.ref f7) = true)
    (a8 : PySem.W.nsIn K mainGlobals "is_number" = some (some (.ref f8))) (l8 : K.lookup f8 = some ⟨oc8, od8, .func (PySem.W.fnOf "is_number" "is_number" (defArgs sIsNum) (defBody sIsNum) (defScope sIsNum) .none kV8 dc8 pm8 an8 cd8 ct8), sl8⟩) (c8' : PySem.W.codeIn K cd8 "is_number" = true) (k8 : PySem.W.keepIn K (.ref f8) = true)
    (a9 : PySem.W.nsIn K mainGlobals "are_numbers" = some (some (.ref f9))) (l9 : K.lookup f9 = some ⟨oc9, od9, .func (PySem.W.fnOf "are_numbers" "are_numbers" (defArgs sNums) (defBody sNums) (defScope sNums) .none kV9 dc9 pm9 an9 (.ref c9) ct9), sl9⟩) (c9' : PySem.W.codeIn K (.ref c9) "are_numbers" = true) (k9 : PySem.W.keepIn K (.ref f9) = true)
    (a10 : PySem.W.nsIn K mainGlobals "are_rising" = some (some (.ref f10))) (l10 : K.lookup f10 = some ⟨oc10, od10, .func (PySem.W.fnOf "are_rising" "are_rising" (defArgs sRising) (defBody sRising) (defScope sRising) .none kV10 dc10 pm10 an10 (.ref c10) ct10), sl10⟩) (c10' : PySem.W.codeIn K (.ref c10) "are_rising" = true) (k10 : PySem.W.keepIn K (.ref f10) = true)
    (a11 : PySem.W.nsIn K mainGlobals "are_rising_below" = some (some (.ref f11))) (l11 : K.lookup f11 = some ⟨oc11, od11, .func (PySem.W.fnOf "are_rising_below" "are_rising_below" (defArgs sBelow) (defBody sBelow) (defScope sBelow) .none kV11 dc11 pm11 an11 (.ref c11) ct11), sl11⟩) (c11' : PySem.W.codeIn K (.ref c11) "are_rising_below" = true) (k11 : PySem.W.keepIn K (.ref f11) = true)
    (a12 : PySem.W.nsIn K mainGlobals "each_has_one" = some (some (.ref f12))) (l12 : K.lookup f12 = some ⟨oc12, od12, .func (PySem.W.fnOf "each_has_one" "each_has_one" (defArgs sEach) (defBody sEach) (defScope sEach) .none kV12 dc12 pm12 an12 (.ref c12) ct12), sl12⟩) (c12' : PySem.W.codeIn K (.ref c12) "each_has_one" = true) (k12 : PySem.W.keepIn K (.ref f12) = true)
    (a13 : PySem.W.nsIn K mainGlobals "are_apart" = some (some (.ref f13))) (l13 : K.lookup f13 = some ⟨oc13, od13, .func (PySem.W.fnOf "are_apart" "are_apart" (defArgs sApart) (defBody sApart) (defScope sApart) .none kV13 dc13 pm13 an13 (.ref c13) ct13), sl13⟩) (c13' : PySem.W.codeIn K (.ref c13) "are_apart" = true) (k13 : PySem.W.keepIn K (.ref f13) = true)
    (a14 : PySem.W.nsIn K mainGlobals "shows_blind" = some (some (.ref f14))) (l14 : K.lookup f14 = some ⟨oc14, od14, .func (PySem.W.fnOf "shows_blind" "shows_blind" (defArgs sSBlind) (defBody sSBlind) (defScope sSBlind) .none kV14 dc14 pm14 an14 cd14 ct14), sl14⟩) (c14' : PySem.W.codeIn K cd14 "shows_blind" = true) (k14 : PySem.W.keepIn K (.ref f14) = true)
    (a15 : PySem.W.nsIn K mainGlobals "shows_fewest" = some (some (.ref f15))) (l15 : K.lookup f15 = some ⟨oc15, od15, .func (PySem.W.fnOf "shows_fewest" "shows_fewest" (defArgs sSFew) (defBody sSFew) (defScope sSFew) .none kV15 dc15 pm15 an15 (.ref c15) ct15), sl15⟩) (c15' : PySem.W.codeIn K (.ref c15) "shows_fewest" = true) (k15 : PySem.W.keepIn K (.ref f15) = true)
    (a16 : PySem.W.nsIn K mainGlobals "shows_samples" = some (some (.ref f16))) (l16 : K.lookup f16 = some ⟨oc16, od16, .func (PySem.W.fnOf "shows_samples" "shows_samples" (defArgs sShows) (defBody sShows) (defScope sShows) .none kV16 dc16 pm16 an16 cd16 ct16), sl16⟩) (c16' : PySem.W.codeIn K cd16 "shows_samples" = true) (k16 : PySem.W.keepIn K (.ref f16) = true)
    (a17 : PySem.W.nsIn K mainGlobals "_law_begin" = some (some (.ref f17))) (l17 : K.lookup f17 = some ⟨oc17, od17, .func (PySem.W.fnOf "_law_begin" "_law_begin" (defArgs sBegin) (defBody sBegin) (defScope sBegin) .none kV17 dc17 pm17 an17 cd17 ct17), sl17⟩) (c17' : PySem.W.codeIn K cd17 "_law_begin" = true) (k17 : PySem.W.keepIn K (.ref f17) = true)
    (a18 : PySem.W.nsIn K mainGlobals "_law_take" = some (some (.ref f18))) (l18 : K.lookup f18 = some ⟨oc18, od18, .func (PySem.W.fnOf "_law_take" "_law_take" (defArgs sTake) (defBody sTake) (defScope sTake) .none kV18 dc18 pm18 an18 cd18 ct18), sl18⟩) (c18' : PySem.W.codeIn K cd18 "_law_take" = true) (k18 : PySem.W.keepIn K (.ref f18) = true)
    (a19 : PySem.W.nsIn K mainGlobals "_law_great" = some (some (.ref f19))) (l19 : K.lookup f19 = some ⟨oc19, od19, .func (PySem.W.fnOf "_law_great" "_law_great" (defArgs sGreat) (defBody sGreat) (defScope sGreat) .none kV19 dc19 pm19 an19 cd19 ct19), sl19⟩) (c19' : PySem.W.codeIn K cd19 "_law_great" = true) (k19 : PySem.W.keepIn K (.ref f19) = true)
    (a20 : PySem.W.nsIn K mainGlobals "_law_gone" = some (some (.ref f20))) (l20 : K.lookup f20 = some ⟨oc20, od20, .func (PySem.W.fnOf "_law_gone" "_law_gone" (defArgs sGone) (defBody sGone) (defScope sGone) .none kV20 dc20 pm20 an20 cd20 ct20), sl20⟩) (c20' : PySem.W.codeIn K cd20 "_law_gone" = true) (k20 : PySem.W.keepIn K (.ref f20) = true)
    (a21 : PySem.W.nsIn K mainGlobals "_law_runs" = some (some (.ref f21))) (l21 : K.lookup f21 = some ⟨oc21, od21, .func (PySem.W.fnOf "_law_runs" "_law_runs" (defArgs sRuns) (defBody sRuns) (defScope sRuns) .none kV21 dc21 pm21 an21 cd21 ct21), sl21⟩) (c21' : PySem.W.codeIn K cd21 "_law_runs" = true) (k21 : PySem.W.keepIn K (.ref f21) = true)
    (a22 : PySem.W.nsIn K mainGlobals "_law_moved" = some (some (.ref f22))) (l22 : K.lookup f22 = some ⟨oc22, od22, .func (PySem.W.fnOf "_law_moved" "_law_moved" (defArgs sMoved) (defBody sMoved) (defScope sMoved) .none kV22 dc22 pm22 an22 cd22 ct22), sl22⟩) (c22' : PySem.W.codeIn K cd22 "_law_moved" = true) (k22 : PySem.W.keepIn K (.ref f22) = true)
    (a23 : PySem.W.nsIn K mainGlobals "_law_left" = some (some (.ref f23))) (l23 : K.lookup f23 = some ⟨oc23, od23, .func (PySem.W.fnOf "_law_left" "_law_left" (defArgs sLLeft) (defBody sLLeft) (defScope sLLeft) .none kV23 dc23 pm23 an23 cd23 ct23), sl23⟩) (c23' : PySem.W.codeIn K cd23 "_law_left" = true) (k23 : PySem.W.keepIn K (.ref f23) = true)
    (a24 : PySem.W.nsIn K mainGlobals "_law_share" = some (some (.ref f24))) (l24 : K.lookup f24 = some ⟨oc24, od24, .func (PySem.W.fnOf "_law_share" "_law_share" (defArgs sShare) (defBody sShare) (defScope sShare) .none kV24 dc24 pm24 an24 cd24 ct24), sl24⟩) (c24' : PySem.W.codeIn K cd24 "_law_share" = true) (k24 : PySem.W.keepIn K (.ref f24) = true)
    (a25 : PySem.W.nsIn K mainGlobals "_law_is_number" = some (some (.ref f25))) (l25 : K.lookup f25 = some ⟨oc25, od25, .func (PySem.W.fnOf "_law_is_number" "_law_is_number" (defArgs sLNum) (defBody sLNum) (defScope sLNum) .none kV25 dc25 pm25 an25 cd25 ct25), sl25⟩) (c25' : PySem.W.codeIn K cd25 "_law_is_number" = true) (k25 : PySem.W.keepIn K (.ref f25) = true)
    (a26 : PySem.W.nsIn K mainGlobals "_law_rising" = some (some (.ref f26))) (l26 : K.lookup f26 = some ⟨oc26, od26, .func (PySem.W.fnOf "_law_rising" "_law_rising" (defArgs sLRis) (defBody sLRis) (defScope sLRis) .none kV26 dc26 pm26 an26 cd26 ct26), sl26⟩) (c26' : PySem.W.codeIn K cd26 "_law_rising" = true) (k26 : PySem.W.keepIn K (.ref f26) = true)
    (a27 : PySem.W.nsIn K mainGlobals "_law_samples_shown" = some (some (.ref f27))) (l27 : K.lookup f27 = some ⟨oc27, od27, .func (PySem.W.fnOf "_law_samples_shown" "_law_samples_shown" (defArgs sSShown) (defBody sSShown) (defScope sSShown) .none kV27 dc27 pm27 an27 cd27 ct27), sl27⟩) (c27' : PySem.W.codeIn K cd27 "_law_samples_shown" = true) (k27 : PySem.W.keepIn K (.ref f27) = true)
    (a28 : PySem.W.nsIn K mainGlobals "_law_case" = some (some (.ref f28))) (l28 : K.lookup f28 = some ⟨oc28, od28, .func (PySem.W.fnOf "_law_case" "_law_case" (defArgs sCase) (defBody sCase) (defScope sCase) .none kV28 dc28 pm28 an28 cd28 ct28), sl28⟩) (c28' : PySem.W.codeIn K cd28 "_law_case" = true) (k28 : PySem.W.keepIn K (.ref f28) = true)
    (a29 : PySem.W.nsIn K mainGlobals "_law_many" = some (some (.ref f29))) (l29 : K.lookup f29 = some ⟨oc29, od29, .func (PySem.W.fnOf "_law_many" "_law_many" (defArgs sMany) (defBody sMany) (defScope sMany) .none kV29 dc29 pm29 an29 cd29 ct29), sl29⟩) (c29' : PySem.W.codeIn K cd29 "_law_many" = true) (k29 : PySem.W.keepIn K (.ref f29) = true)
    (a30 : PySem.W.nsIn K mainGlobals "_law_turned" = some (some (.ref f30))) (l30 : K.lookup f30 = some ⟨oc30, od30, .func (PySem.W.fnOf "_law_turned" "_law_turned" (defArgs sTurned) (defBody sTurned) (defScope sTurned) .none kV30 dc30 pm30 an30 cd30 ct30), sl30⟩) (c30' : PySem.W.codeIn K cd30 "_law_turned" = true) (k30 : PySem.W.keepIn K (.ref f30) = true)
    (a31 : PySem.W.nsIn K mainGlobals "_law_ordered" = some (some (.ref f31))) (l31 : K.lookup f31 = some ⟨oc31, od31, .func (PySem.W.fnOf "_law_ordered" "_law_ordered" (defArgs sOrdered) (defBody sOrdered) (defScope sOrdered) .none kV31 dc31 pm31 an31 cd31 ct31), sl31⟩) (c31' : PySem.W.codeIn K cd31 "_law_ordered" = true) (k31 : PySem.W.keepIn K (.ref f31) = true)
    (a32 : PySem.W.nsIn K mainGlobals "_law_more_runs_right" = some (some (.ref f32))) (l32 : K.lookup f32 = some ⟨oc32, od32, .func (PySem.W.fnOf "_law_more_runs_right" "_law_more_runs_right" (defArgs sMoreR) (defBody sMoreR) (defScope sMoreR) .none kV32 dc32 pm32 an32 cd32 ct32), sl32⟩) (c32' : PySem.W.codeIn K cd32 "_law_more_runs_right" = true) (k32 : PySem.W.keepIn K (.ref f32) = true)
    (a33 : PySem.W.nsIn K mainGlobals "law" = some (some (.ref f33))) (l33 : K.lookup f33 = some ⟨oc33, od33, .func (PySem.W.fnOf "law" "law" (defArgs sLaw) (defBody sLaw) (defScope sLaw) .none kV33 dc33 pm33 an33 cd33 ct33), sl33⟩) (c33' : PySem.W.codeIn K cd33 "law" = true) (k33 : PySem.W.keepIn K (.ref f33) = true)
    (lc4 : K.lookup c4 = some ⟨e4, dd4, .fields vs4, sc4⟩) (v4 : vs4[11]? = some (.ref P4)) (nP4 : K.lookup P4 = none) (r4 : ((recsOf q).any fun e => e.name == ("is_in" : Str)) = true)
    (lc5 : K.lookup c5 = some ⟨e5, dd5, .fields vs5, sc5⟩) (v5 : vs5[11]? = some (.ref P5)) (nP5 : K.lookup P5 = none) (r5 : ((recsOf q).any fun e => e.name == ("least_samples" : Str)) = true)
    (lc9 : K.lookup c9 = some ⟨e9, dd9, .fields vs9, sc9⟩) (v9 : vs9[11]? = some (.ref P9)) (nP9 : K.lookup P9 = none) (r9 : ((recsOf q).any fun e => e.name == ("are_numbers" : Str)) = true)
    (lc10 : K.lookup c10 = some ⟨e10, dd10, .fields vs10, sc10⟩) (v10 : vs10[11]? = some (.ref P10)) (nP10 : K.lookup P10 = none) (r10 : ((recsOf q).any fun e => e.name == ("are_rising" : Str)) = true)
    (lc11 : K.lookup c11 = some ⟨e11, dd11, .fields vs11, sc11⟩) (v11 : vs11[11]? = some (.ref P11)) (nP11 : K.lookup P11 = none) (r11 : ((recsOf q).any fun e => e.name == ("are_rising_below" : Str)) = true)
    (lc12 : K.lookup c12 = some ⟨e12, dd12, .fields vs12, sc12⟩) (v12 : vs12[11]? = some (.ref P12)) (nP12 : K.lookup P12 = none) (r12 : ((recsOf q).any fun e => e.name == ("each_has_one" : Str)) = true)
    (lc13 : K.lookup c13 = some ⟨e13, dd13, .fields vs13, sc13⟩) (v13 : vs13[11]? = some (.ref P13)) (nP13 : K.lookup P13 = none) (r13 : ((recsOf q).any fun e => e.name == ("are_apart" : Str)) = true)
    (lc15 : K.lookup c15 = some ⟨e15, dd15, .fields vs15, sc15⟩) (v15 : vs15[11]? = some (.ref P15)) (nP15 : K.lookup P15 = none) (r15 : ((recsOf q).any fun e => e.name == ("shows_fewest" : Str)) = true)
    (x_PP : P5 ∉ [P4, P9, P10, P11, P12, P13, P15])
    (z_all : PySem.W.nsIn K mainGlobals "all" = some none) (z_any : PySem.W.nsIn K mainGlobals "any" = some none) (z_bool : PySem.W.nsIn K mainGlobals "bool" = some none) (z_divmod : PySem.W.nsIn K mainGlobals "divmod" = some none) (z_enumerate : PySem.W.nsIn K mainGlobals "enumerate" = some none) (z_int : PySem.W.nsIn K mainGlobals "int" = some none) (z_isinstance : PySem.W.nsIn K mainGlobals "isinstance" = some none) (z_len : PySem.W.nsIn K mainGlobals "len" = some none) (z_list : PySem.W.nsIn K mainGlobals "list" = some none) (z_max : PySem.W.nsIn K mainGlobals "max" = some none) (z_min : PySem.W.nsIn K mainGlobals "min" = some none) (z_range : PySem.W.nsIn K mainGlobals "range" = some none) (z_sorted : PySem.W.nsIn K mainGlobals "sorted" = some none) (z_str : PySem.W.nsIn K mainGlobals "str" = some none) (z_tuple : PySem.W.nsIn K mainGlobals "tuple" = some none) (z_zip : PySem.W.nsIn K mainGlobals "zip" = some none) :
    LamX.LawAtS l w K CX0 13 63 "_law_script" mg fa h := by
  cases hfa.symm.trans (PySem.W.mg_of X G a33)
  have F0 := fun_mk (st := sSetOf) l0 c0' k0
  have b0 := F0.binds (ps := ["pairs"]) fun _ _ _ _ _ _ us hl => match us, hl with | [_], _ => rfl
  have F1 := fun_mk (st := sBoth) l1 c1' k1
  have b1 := F1.binds (ps := ["one", "other"]) fun _ _ _ _ _ _ us hl => match us, hl with | [_, _], _ => rfl
  have F2 := fun_mk (st := sGaps) l2 c2' k2
  have b2 := F2.binds (ps := ["some", "begin", "end"]) fun _ _ _ _ _ _ us hl => match us, hl with | [_, _, _], _ => rfl
  have F3 := fun_mk (st := sWithout) l3 c3' k3
  have b3 := F3.binds (ps := ["one", "other"]) fun _ _ _ _ _ _ us hl => match us, hl with | [_, _], _ => rfl
  have F4 := fun_mk (st := sIsIn) l4 c4' k4
  have b4 := F4.binds (ps := ["some", "number"]) fun _ _ _ _ _ _ us hl => match us, hl with | [_, _], _ => rfl
  have F5 := fun_mk (st := sLeast) l5 c5' k5
  have b5 := F5.binds (ps := ["runs", "gone"]) fun _ _ _ _ _ _ us hl => match us, hl with | [_, _], _ => rfl
  have F6 := fun_mk (st := sIsRow) l6 c6' k6
  have b6 := F6.binds (ps := ["thing"]) fun _ _ _ _ _ _ us hl => match us, hl with | [_], _ => rfl
  have F7 := fun_mk (st := sTupOf) l7 c7' k7
  have b7 := F7.binds (ps := ["thing", "many"]) fun _ _ _ _ _ _ us hl => match us, hl with | [_, _], _ => rfl
  have F8 := fun_mk (st := sIsNum) l8 c8' k8
  have b8 := F8.binds (ps := ["thing"]) fun _ _ _ _ _ _ us hl => match us, hl with | [_], _ => rfl
  have F9 := fun_mk (st := sNums) l9 c9' k9
  have b9 := F9.binds (ps := ["thing"]) fun _ _ _ _ _ _ us hl => match us, hl with | [_], _ => rfl
  have F10 := fun_mk (st := sRising) l10 c10' k10
  have b10 := F10.binds (ps := ["thing"]) fun _ _ _ _ _ _ us hl => match us, hl with | [_], _ => rfl
  have F11 := fun_mk (st := sBelow) l11 c11' k11
  have b11 := F11.binds (ps := ["thing", "many"]) fun _ _ _ _ _ _ us hl => match us, hl with | [_, _], _ => rfl
  have F12 := fun_mk (st := sEach) l12 c12' k12
  have b12 := F12.binds (ps := ["runs", "numbers"]) fun _ _ _ _ _ _ us hl => match us, hl with | [_, _], _ => rfl
  have F13 := fun_mk (st := sApart) l13 c13' k13
  have b13 := F13.binds (ps := ["runs", "gone", "apart"]) fun _ _ _ _ _ _ us hl => match us, hl with | [_, _, _], _ => rfl
  have F14 := fun_mk (st := sSBlind) l14 c14' k14
  have b14 := F14.binds (ps := ["runs", "gone", "told"]) fun _ _ _ _ _ _ us hl => match us, hl with | [_, _, _], _ => rfl
  have F15 := fun_mk (st := sSFew) l15 c15' k15
  have b15 := F15.binds (ps := ["runs", "gone", "told"]) fun _ _ _ _ _ _ us hl => match us, hl with | [_, _, _], _ => rfl
  have F16 := fun_mk (st := sShows) l16 c16' k16
  have b16 := F16.binds (ps := ["runs", "gone", "told"]) fun _ _ _ _ _ _ us hl => match us, hl with | [_, _, _], _ => rfl
  have F17 := fun_mk (st := sBegin) l17 c17' k17
  have b17 := F17.binds (ps := ["_law_script"]) fun _ _ _ _ _ _ us hl => match us, hl with | [_], _ => rfl
  have F18 := fun_mk (st := sTake) l18 c18' k18
  have b18 := F18.binds (ps := ["_law_state", "_law_many_here"]) fun _ _ _ _ _ _ us hl => match us, hl with | [_, _], _ => rfl
  have F19 := fun_mk (st := sGreat) l19 c19' k19
  have b19 := F19.binds (ps := ["_law_state"]) fun _ _ _ _ _ _ us hl => match us, hl with | [_], _ => rfl
  have F20 := fun_mk (st := sGone) l20 c20' k20
  have b20 := F20.binds (ps := ["_law_state", "_law_most", "_law_rare"]) fun _ _ _ _ _ _ us hl => match us, hl with | [_, _, _], _ => rfl
  have F21 := fun_mk (st := sRuns) l21 c21' k21
  have b21 := F21.binds (ps := ["_law_state", "_law_many_here", "_law_most", "_law_wide"]) fun _ _ _ _ _ _ us hl => match us, hl with | [_, _, _, _], _ => rfl
  have F22 := fun_mk (st := sMoved) l22 c22' k22
  have b22 := F22.binds (ps := ["_law_pairs", "_law_many_here", "_law_shift"]) fun _ _ _ _ _ _ us hl => match us, hl with | [_, _, _], _ => rfl
  have F23 := fun_mk (st := sLLeft) l23 c23' k23
  have b23 := F23.binds (ps := ["_law_span", "_law_gone_here"]) fun _ _ _ _ _ _ us hl => match us, hl with | [_, _], _ => rfl
  have F24 := fun_mk (st := sShare) l24 c24' k24
  have b24 := F24.binds (ps := ["_law_one", "_law_other"]) fun _ _ _ _ _ _ us hl => match us, hl with | [_, _], _ => rfl
  have F25 := fun_mk (st := sLNum) l25 c25' k25
  have b25 := F25.binds (ps := ["_law_thing"]) fun _ _ _ _ _ _ us hl => match us, hl with | [_], _ => rfl
  have F26 := fun_mk (st := sLRis) l26 c26' k26
  have b26 := F26.binds (ps := ["_law_thing"]) fun _ _ _ _ _ _ us hl => match us, hl with | [_], _ => rfl
  have F27 := fun_mk (st := sSShown) l27 c27' k27
  have b27 := F27.binds (ps := ["_law_runs_here", "_law_gone_here", "_law_told"]) fun _ _ _ _ _ _ us hl => match us, hl with | [_, _, _], _ => rfl
  have F28 := fun_mk (st := sCase) l28 c28' k28
  have b28 := F28.binds (ps := ["_law_state"]) fun _ _ _ _ _ _ us hl => match us, hl with | [_], _ => rfl
  have F29 := fun_mk (st := sMany) l29 c29' k29
  have b29 := F29.binds (ps := ["_law_runs_here", "_law_gone_here"]) fun _ _ _ _ _ _ us hl => match us, hl with | [_, _], _ => rfl
  have F30 := fun_mk (st := sTurned) l30 c30' k30
  have b30 := F30.binds (ps := ["_law_pairs", "_law_top"]) fun _ _ _ _ _ _ us hl => match us, hl with | [_, _], _ => rfl
  have F31 := fun_mk (st := sOrdered) l31 c31' k31
  have b31 := F31.binds (ps := ["_law_state", "_law_runs_here"]) fun _ _ _ _ _ _ us hl => match us, hl with | [_, _], _ => rfl
  have F32 := fun_mk (st := sMoreR) l32 c32' k32
  have b32 := F32.binds (ps := ["_law_state", "_law_runs_here", "_law_gone_here", "_law_due", "_law_top"]) fun _ _ _ _ _ _ us hl => match us, hl with | [_, _, _, _, _], _ => rfl
  have F33 := fun_mk (st := sLaw) l33 c33' k33
  have m_all := PySem.W.mg_none_of X G z_all
  have m_any := PySem.W.mg_none_of X G z_any
  have m_bool := PySem.W.mg_none_of X G z_bool
  have m_divmod := PySem.W.mg_none_of X G z_divmod
  have m_enumerate := PySem.W.mg_none_of X G z_enumerate
  have m_int := PySem.W.mg_none_of X G z_int
  have m_isinstance := PySem.W.mg_none_of X G z_isinstance
  have m_len := PySem.W.mg_none_of X G z_len
  have m_list := PySem.W.mg_none_of X G z_list
  have m_max := PySem.W.mg_none_of X G z_max
  have m_min := PySem.W.mg_none_of X G z_min
  have m_range := PySem.W.mg_none_of X G z_range
  have m_sorted := PySem.W.mg_none_of X G z_sorted
  have m_str := PySem.W.mg_none_of X G z_str
  have m_tuple := PySem.W.mg_none_of X G z_tuple
  have m_zip := PySem.W.mg_none_of X G z_zip
  have tb4 := tab_in TT X r4 (PySem.W.mg_of X G a4) l4 rfl lc4 v4
  have tb5 := tab_in TT X r5 (PySem.W.mg_of X G a5) l5 rfl lc5 v5
  have tb9 := tab_in TT X r9 (PySem.W.mg_of X G a9) l9 rfl lc9 v9
  have tb10 := tab_in TT X r10 (PySem.W.mg_of X G a10) l10 rfl lc10 v10
  have tb11 := tab_in TT X r11 (PySem.W.mg_of X G a11) l11 rfl lc11 v11
  have tb12 := tab_in TT X r12 (PySem.W.mg_of X G a12) l12 rfl lc12 v12
  have tb13 := tab_in TT X r13 (PySem.W.mg_of X G a13) l13 rfl lc13 v13
  have tb15 := tab_in TT X r15 (PySem.W.mg_of X G a15) l15 rfl lc15 v15
  refine ⟨PySem.W.fnOf "law" "law" (defArgs sLaw) (defBody sLaw) (defScope sLaw) .none kV33 dc33 pm33 an33 cd33 ct33, [(c4, P4), (c5, P5), (c9, P9), (c10, P10), (c11, P11), (c12, P12), (c13, P13), (c15, P15)], spLaw K ⟨[P4, P9, P10, P11, P12, P13, P15], [(P5, qL)]⟩ [P5, P4, P9, P10, P11, P12, P13, P15] P5 P9 P10 P11 P12 P13 P4 P15, List.forall_mem_cons.mpr ⟨tb4.2, List.forall_mem_cons.mpr ⟨tb5.2, List.forall_mem_cons.mpr ⟨tb9.2, List.forall_mem_cons.mpr ⟨tb10.2, List.forall_mem_cons.mpr ⟨tb11.2, List.forall_mem_cons.mpr ⟨tb12.2, List.forall_mem_cons.mpr ⟨tb13.2, List.forall_mem_cons.mpr ⟨tb15.2, fun _ z => nomatch z⟩⟩⟩⟩⟩⟩⟩⟩, List.forall_mem_cons.mpr ⟨nP4, List.forall_mem_cons.mpr ⟨nP5, List.forall_mem_cons.mpr ⟨nP9, List.forall_mem_cons.mpr ⟨nP10, List.forall_mem_cons.mpr ⟨nP11, List.forall_mem_cons.mpr ⟨nP12, List.forall_mem_cons.mpr ⟨nP13, List.forall_mem_cons.mpr ⟨nP15, fun _ z => nomatch z⟩⟩⟩⟩⟩⟩⟩⟩, List.forall_mem_cons.mpr ⟨tb4.1, List.forall_mem_cons.mpr ⟨tb5.1, List.forall_mem_cons.mpr ⟨tb9.1, List.forall_mem_cons.mpr ⟨tb10.1, List.forall_mem_cons.mpr ⟨tb11.1, List.forall_mem_cons.mpr ⟨tb12.1, List.forall_mem_cons.mpr ⟨tb13.1, List.forall_mem_cons.mpr ⟨tb15.1, fun _ z => nomatch z⟩⟩⟩⟩⟩⟩⟩⟩, fun s v => .of_eq rfl, fun H a ns hl _ hH hS => ?_, fun base _ _ TB => ?_⟩
  · have hT4 : GxR.TabG H P4 := ⟨#[], hH (c4, P4) (List.mem_cons_self ..), trivial⟩; have hT5 : GxR.TabG H P5 := ⟨#[], hH (c5, P5) (List.mem_cons_of_mem _ (List.mem_cons_self ..)), trivial⟩; have hT9 : GxR.TabG H P9 := ⟨#[], hH (c9, P9) (List.mem_cons_of_mem _ (List.mem_cons_of_mem _ (List.mem_cons_self ..))), trivial⟩; have hT10 : GxR.TabG H P10 := ⟨#[], hH (c10, P10) (List.mem_cons_of_mem _ (List.mem_cons_of_mem _ (List.mem_cons_of_mem _ (List.mem_cons_self ..)))), trivial⟩; have hT11 : GxR.TabG H P11 := ⟨#[], hH (c11, P11) (List.mem_cons_of_mem _ (List.mem_cons_of_mem _ (List.mem_cons_of_mem _ (List.mem_cons_of_mem _ (List.mem_cons_self ..))))), trivial⟩; have hT12 : GxR.TabG H P12 := ⟨#[], hH (c12, P12) (List.mem_cons_of_mem _ (List.mem_cons_of_mem _ (List.mem_cons_of_mem _ (List.mem_cons_of_mem _ (List.mem_cons_of_mem _ (List.mem_cons_self ..)))))), trivial⟩; have hT13 : GxR.TabG H P13 := ⟨#[], hH (c13, P13) (List.mem_cons_of_mem _ (List.mem_cons_of_mem _ (List.mem_cons_of_mem _ (List.mem_cons_of_mem _ (List.mem_cons_of_mem _ (List.mem_cons_of_mem _ (List.mem_cons_self ..))))))), trivial⟩; have hT15 : GxR.TabG H P15 := ⟨#[], hH (c15, P15) (List.mem_cons_of_mem _ (List.mem_cons_of_mem _ (List.mem_cons_of_mem _ (List.mem_cons_of_mem _ (List.mem_cons_of_mem _ (List.mem_cons_of_mem _ (List.mem_cons_of_mem _ (List.mem_cons_self ..)))))))), trivial⟩; exact ⟨a, ns, rfl, hS, hl, ⟨List.forall_mem_cons.mpr ⟨⟨_, hH (c5, P5) (by simp)⟩, List.forall_mem_cons.mpr ⟨⟨_, hH (c4, P4) (by simp)⟩, List.forall_mem_cons.mpr ⟨⟨_, hH (c9, P9) (by simp)⟩, List.forall_mem_cons.mpr ⟨⟨_, hH (c10, P10) (by simp)⟩, List.forall_mem_cons.mpr ⟨⟨_, hH (c11, P11) (by simp)⟩, List.forall_mem_cons.mpr ⟨⟨_, hH (c12, P12) (by simp)⟩, List.forall_mem_cons.mpr ⟨⟨_, hH (c13, P13) (by simp)⟩, List.forall_mem_cons.mpr ⟨⟨_, hH (c15, P15) (by simp)⟩, (fun _ z => nomatch z)⟩⟩⟩⟩⟩⟩⟩⟩, List.forall_mem_cons.mpr ⟨⟨GX.TabQ.nil (hH (c4, P4) (by simp)), by simp⟩, List.forall_mem_cons.mpr ⟨⟨GX.TabQ.nil (hH (c9, P9) (by simp)), by simp⟩, List.forall_mem_cons.mpr ⟨⟨GX.TabQ.nil (hH (c10, P10) (by simp)), by simp⟩, List.forall_mem_cons.mpr ⟨⟨GX.TabQ.nil (hH (c11, P11) (by simp)), by simp⟩, List.forall_mem_cons.mpr ⟨⟨GX.TabQ.nil (hH (c12, P12) (by simp)), by simp⟩, List.forall_mem_cons.mpr ⟨⟨GX.TabQ.nil (hH (c13, P13) (by simp)), by simp⟩, List.forall_mem_cons.mpr ⟨⟨GX.TabQ.nil (hH (c15, P15) (by simp)), by simp⟩, (fun _ z => nomatch z)⟩⟩⟩⟩⟩⟩⟩, List.forall_mem_cons.mpr ⟨⟨by simp, x_PP, LamX.TabS.nil (hH (c5, P5) (by simp))⟩, (fun _ z => nomatch z)⟩⟩, ⟨by simp, fun l hl e => by rw [List.mem_singleton.mp hl]⟩, ⟨GX.Mq.mem.mpr (by simp), GX.Mq.mem.mpr (by simp), GX.Mq.mem.mpr (by simp), GX.Mq.mem.mpr (by simp), GX.Mq.mem.mpr (by simp), GX.Mq.mem.mpr (by simp), GX.Mq.mem.mpr (by simp)⟩, fun _ => rfl⟩
  · have g := fun {x : Str} {f : Addr} (a : PySem.W.nsIn K mainGlobals x = some (some (.ref f))) => PySem.W.mg_of X G a
    have T4 : GxR.TabB base mg c4 P4 := let t := TB (c4, P4) (List.mem_cons_self ..); ⟨t.code, t.bm, t.gP⟩
    have T5 : GxR.TabB base mg c5 P5 := let t := TB (c5, P5) (List.mem_cons_of_mem _ (List.mem_cons_self ..)); ⟨t.code, t.bm, t.gP⟩
    have T9 : GxR.TabB base mg c9 P9 := let t := TB (c9, P9) (List.mem_cons_of_mem _ (List.mem_cons_of_mem _ (List.mem_cons_self ..))); ⟨t.code, t.bm, t.gP⟩
    have T10 : GxR.TabB base mg c10 P10 := let t := TB (c10, P10) (List.mem_cons_of_mem _ (List.mem_cons_of_mem _ (List.mem_cons_of_mem _ (List.mem_cons_self ..)))); ⟨t.code, t.bm, t.gP⟩
    have T11 : GxR.TabB base mg c11 P11 := let t := TB (c11, P11) (List.mem_cons_of_mem _ (List.mem_cons_of_mem _ (List.mem_cons_of_mem _ (List.mem_cons_of_mem _ (List.mem_cons_self ..))))); ⟨t.code, t.bm, t.gP⟩
    have T12 : GxR.TabB base mg c12 P12 := let t := TB (c12, P12) (List.mem_cons_of_mem _ (List.mem_cons_of_mem _ (List.mem_cons_of_mem _ (List.mem_cons_of_mem _ (List.mem_cons_of_mem _ (List.mem_cons_self ..)))))); ⟨t.code, t.bm, t.gP⟩
    have T13 : GxR.TabB base mg c13 P13 := let t := TB (c13, P13) (List.mem_cons_of_mem _ (List.mem_cons_of_mem _ (List.mem_cons_of_mem _ (List.mem_cons_of_mem _ (List.mem_cons_of_mem _ (List.mem_cons_of_mem _ (List.mem_cons_self ..))))))); ⟨t.code, t.bm, t.gP⟩
    have T15 : GxR.TabB base mg c15 P15 := let t := TB (c15, P15) (List.mem_cons_of_mem _ (List.mem_cons_of_mem _ (List.mem_cons_of_mem _ (List.mem_cons_of_mem _ (List.mem_cons_of_mem _ (List.mem_cons_of_mem _ (List.mem_cons_of_mem _ (List.mem_cons_self ..)))))))); ⟨t.code, t.bm, t.gP⟩
    have CT : Cal l.prog w K mg base 1 "_law_take" ["_law_state", "_law_many_here"] spTake := ⟨_, _, ok_take F18 m_len m_divmod, g a18, k18, b18⟩
    have CB : Cal l.prog w K mg base 1 "_law_begin" ["_law_script"] (spBegin K) := ⟨_, _, ok_begin F17 m_list, g a17, k17, b17⟩
    have SO : Cal l.prog w K mg base 1 "set_of" ["pairs"] (spSetOf K) := ⟨_, _, ok_setof F0 m_sorted m_max, g a0, k0, b0⟩
    have BO : Cal l.prog w K mg base 1 "both_of" ["one", "other"] (spBoth K) := ⟨_, _, ok_both F1 m_len m_max m_min, g a1, k1, b1⟩
    have GA : Cal l.prog w K mg base 2 "gaps_of" ["some", "begin", "end"] (spGaps K) := ⟨_, _, ok_gaps F2 SO m_max m_min, g a2, k2, b2⟩
    have WI : Cal l.prog w K mg base 3 "without" ["one", "other"] (spWithout K) := ⟨_, _, ok_without F3 BO GA, g a3, k3, b3⟩
    have II : Cal l.prog w K mg base 4 "is_in" ["some", "number"] (spIsIn K ⟨[P4, P9, P10, P11, P12, P13, P15], [(P5, qL)]⟩ [P5, P4, P9, P10, P11, P12, P13, P15] P4) := ⟨_, _, ok_IsIn l4 c4' ⟨T4.code, T4.bm, T4.gP⟩ m_any, g a4, k4, b4⟩
    have LS : Cal l.prog w K mg base 4 "least_samples" ["runs", "gone"] (spLeast K P5) := ⟨_, _, ok_Least l5 c5' ⟨T5.code, T5.bm, T5.gP⟩ WI m_sorted m_range m_len, g a5, k5, b5⟩
    have IR : Cal l.prog w K mg base 1 "is_row" ["thing"] spIsRow := ⟨_, _, ok_IsRow F6 m_tuple m_list m_isinstance, g a6, k6, b6⟩
    have IT : Cal l.prog w K mg base 1 "is_tuple_of" ["thing", "many"] spTupOf := ⟨_, _, ok_TupOf F7 m_isinstance m_tuple m_len, g a7, k7, b7⟩
    have IN : Cal l.prog w K mg base 1 "is_number" ["thing"] spIsNum := ⟨_, _, ok_IsNum F8 m_isinstance m_int m_bool, g a8, k8, b8⟩
    have NU : Cal l.prog w K mg base 5 "are_numbers" ["thing"] (spNums K ⟨[P4, P9, P10, P11, P12, P13, P15], [(P5, qL)]⟩ [P5, P4, P9, P10, P11, P12, P13, P15] P9) := ⟨_, _, ok_Nums l9 c9' ⟨T9.code, T9.bm, T9.gP⟩ IR IN m_all, g a9, k9, b9⟩
    have RS : Cal l.prog w K mg base 6 "are_rising" ["thing"] (spRising K ⟨[P4, P9, P10, P11, P12, P13, P15], [(P5, qL)]⟩ [P5, P4, P9, P10, P11, P12, P13, P15] P9 P10) := ⟨_, _, ok_Rising l10 c10' ⟨T10.code, T10.bm, T10.gP⟩ NU m_all m_zip, g a10, k10, b10⟩
    have BE : Cal l.prog w K mg base 7 "are_rising_below" ["thing", "many"] (spBelow K ⟨[P4, P9, P10, P11, P12, P13, P15], [(P5, qL)]⟩ [P5, P4, P9, P10, P11, P12, P13, P15] P9 P10 P11) := ⟨_, _, ok_Below l11 c11' ⟨T11.code, T11.bm, T11.gP⟩ RS m_all, g a11, k11, b11⟩
    have EA : Cal l.prog w K mg base 8 "each_has_one" ["runs", "numbers"] (spEach K ⟨[P4, P9, P10, P11, P12, P13, P15], [(P5, qL)]⟩ [P5, P4, P9, P10, P11, P12, P13, P15] P12) := ⟨_, _, ok_Each l12 c12' ⟨T12.code, T12.bm, T12.gP⟩ m_all m_any, g a12, k12, b12⟩
    have AP : Cal l.prog w K mg base 5 "are_apart" ["runs", "gone", "apart"] (spApart K ⟨[P4, P9, P10, P11, P12, P13, P15], [(P5, qL)]⟩ [P5, P4, P9, P10, P11, P12, P13, P15] P13) := ⟨_, _, ok_Apart l13 c13' ⟨T13.code, T13.bm, T13.gP⟩ WI BO m_all m_len m_range, g a13, k13, b13⟩
    have SB : Cal l.prog w K mg base 4 "shows_blind" ["runs", "gone", "told"] (spSBlind K) := ⟨_, _, ok_SBlind F14 IT IN WI, g a14, k14, b14⟩
    have SF : Cal l.prog w K mg base 9 "shows_fewest" ["runs", "gone", "told"] (spSFew K ⟨[P4, P9, P10, P11, P12, P13, P15], [(P5, qL)]⟩ [P5, P4, P9, P10, P11, P12, P13, P15] P9 P10 P11 P12 P13 P4 P15) := ⟨_, _, ok_SFew l15 c15' ⟨T15.code, T15.bm, T15.gP⟩ IT RS BE II EA AP m_len m_any, g a15, k15, b15⟩
    have SH : Cal l.prog w K mg base 10 "shows_samples" ["runs", "gone", "told"] (spShows K ⟨[P4, P9, P10, P11, P12, P13, P15], [(P5, qL)]⟩ [P5, P4, P9, P10, P11, P12, P13, P15] P9 P10 P11 P12 P13 P4 P15) := ⟨_, _, ok_Shows F16 SB SF, g a16, k16, b16⟩
    have GR : Cal l.prog w K mg base 2 "_law_great" ["_law_state"] spGreat := ⟨_, _, ok_great F19 CT m_range, g a19, k19, b19⟩
    have GO : Cal l.prog w K mg base 2 "_law_gone" ["_law_state", "_law_most", "_law_rare"] spGone := ⟨_, _, ok_Gone F20 CT m_range, g a20, k20, b20⟩
    have RU : Cal l.prog w K mg base 2 "_law_runs" ["_law_state", "_law_many_here", "_law_most", "_law_wide"] spRuns := ⟨_, _, ok_Runs F21 CT m_range m_min m_len, g a21, k21, b21⟩
    have MO : Cal l.prog w K mg base 1 "_law_moved" ["_law_pairs", "_law_many_here", "_law_shift"] spMoved := ⟨_, _, ok_Moved F22, g a22, k22, b22⟩
    have LE : Cal l.prog w K mg base 1 "_law_left" ["_law_span", "_law_gone_here"] spLLeft := ⟨_, _, ok_LLeft F23 m_max m_int, g a23, k23, b23⟩
    have SR : Cal l.prog w K mg base 1 "_law_share" ["_law_one", "_law_other"] spShare := ⟨_, _, ok_Share F24 m_any, g a24, k24, b24⟩
    have LN : Cal l.prog w K mg base 1 "_law_is_number" ["_law_thing"] spIsNum := ⟨_, _, ok_LNum F25 m_isinstance m_int m_bool, g a25, k25, b25⟩
    have LR : Cal l.prog w K mg base 2 "_law_rising" ["_law_thing"] spLRis := ⟨_, _, ok_LRis F26 LN m_tuple m_list m_isinstance m_all m_zip, g a26, k26, b26⟩
    have SW : Cal l.prog w K mg base 3 "_law_samples_shown" ["_law_runs_here", "_law_gone_here", "_law_told"] spSShown := ⟨_, _, ok_SShown F27 LE LN LR SR m_isinstance m_tuple m_len m_str m_any m_enumerate, g a27, k27, b27⟩
    have CA : Cal l.prog w K mg base 3 "_law_case" ["_law_state"] spCase := ⟨_, _, ok_Case F28 CT RU GO GR MO, g a28, k28, b28⟩
    have MY : Cal l.prog w K mg base 11 "_law_many" ["_law_runs_here", "_law_gone_here"] (spMany K ⟨[P4, P9, P10, P11, P12, P13, P15], [(P5, qL)]⟩ [P5, P4, P9, P10, P11, P12, P13, P15] P5 P9 P10 P11 P12 P13 P4 P15) := ⟨_, _, ok_Many F29 LS SW SH m_list m_len, g a29, k29, b29⟩
    have TU : Cal l.prog w K mg base 1 "_law_turned" ["_law_pairs", "_law_top"] spTurned := ⟨_, _, ok_Turned F30, g a30, k30, b30⟩
    have OR : Cal l.prog w K mg base 2 "_law_ordered" ["_law_state", "_law_runs_here"] spOrdered := ⟨_, _, ok_Ordered F31 CT m_len, g a31, k31, b31⟩
    have MR : Cal l.prog w K mg base 12 "_law_more_runs_right" ["_law_state", "_law_runs_here", "_law_gone_here", "_law_due", "_law_top"] (spMoreR K ⟨[P4, P9, P10, P11, P12, P13, P15], [(P5, qL)]⟩ [P5, P4, P9, P10, P11, P12, P13, P15] P5 P9 P10 P11 P12 P13 P4 P15) := ⟨_, _, ok_MoreR F32 CT GR MY m_len m_max, g a32, k32, b32⟩
    exact ok_Law F33 CB CA MY TU GR MO OR LE MR CT m_max m_enumerate m_list m_len
end TK
open PySem PySem.W PyProof.Rows
set_option maxHeartbeats 0 in
theorem PySem.Challenge.cw_tinrecall_k41_samples_put_otherwise_holds : PySem.Challenge.rw_tinrecall_k41_samples_put_otherwise.Holds := by
  w_on; o_law; k_head; (case hw => w_witness2)
  k_fill
  refine TK.law_end (l := PySem.Challenge.rw_tinrecall_k41_samples_put_otherwise) (k := 13) rfl rfl ⟨rfl, by decide, by decide⟩ (fun w h Y => PySem.W.km_in_of Y) ?made
  case made =>
    intro w mg f h KX G hmg TT
    refine' TK.all_mk KX G hmg TT ?a0 ?l0 ?c0 ?k0 ?a1 ?l1 ?c1 ?k1 ?a2 ?l2 ?c2 ?k2 ?a3 ?l3 ?c3 ?k3 ?a4 ?l4 ?c4 ?k4 ?a5 ?l5 ?c5 ?k5 ?a6 ?l6 ?c6 ?k6 ?a7 ?l7 ?c7 ?k7 ?a8 ?l8 ?c8 ?k8 ?a9 ?l9 ?c9 ?k9 ?a10 ?l10 ?c10 ?k10 ?a11 ?l11 ?c11 ?k11 ?a12 ?l12 ?c12 ?k12 ?a13 ?l13 ?c13 ?k13 ?a14 ?l14 ?c14 ?k14 ?a15 ?l15 ?c15 ?k15 ?a16 ?l16 ?c16 ?k16 ?a17 ?l17 ?c17 ?k17 ?a18 ?l18 ?c18 ?k18 ?a19 ?l19 ?c19 ?k19 ?a20 ?l20 ?c20 ?k20 ?a21 ?l21 ?c21 ?k21 ?a22 ?l22 ?c22 ?k22 ?a23 ?l23 ?c23 ?k23 ?a24 ?l24 ?c24 ?k24 ?a25 ?l25 ?c25 ?k25 ?a26 ?l26 ?c26 ?k26 ?a27 ?l27 ?c27 ?k27 ?a28 ?l28 ?c28 ?k28 ?a29 ?l29 ?c29 ?k29 ?a30 ?l30 ?c30 ?k30 ?a31 ?l31 ?c31 ?k31 ?a32 ?l32 ?c32 ?k32 ?a33 ?l33 ?c33 ?k33 ?lc4 ?v4 ?nP4 ?r4 ?lc5 ?v5 ?nP5 ?r5 ?lc9 ?v9 ?nP9 ?r9 ?lc10 ?v10 ?nP10 ?r10 ?lc11 ?v11 ?nP11 ?r11 ?lc12 ?v12 ?nP12 ?r12 ?lc13 ?v13 ?nP13 ?r13 ?lc15 ?v15 ?nP15 ?r15 ?x_PP ?z_all ?z_any ?z_bool ?z_divmod ?z_enumerate ?z_int ?z_isinstance ?z_len ?z_list ?z_max ?z_min ?z_range ?z_sorted ?z_str ?z_tuple ?z_zip
    (case a0 => k_is); (case l0 => k_is); (case c0 => k_is); (case k0 => k_is)
    (case a1 => k_is); (case l1 => k_is); (case c1 => k_is); (case k1 => k_is)
    (case a2 => k_is); (case l2 => k_is); (case c2 => k_is); (case k2 => k_is)
    (case a3 => k_is); (case l3 => k_is); (case c3 => k_is); (case k3 => k_is)
    (case a4 => k_is); (case l4 => k_is); (case c4 => k_is); (case k4 => k_is)
    (case a5 => k_is); (case l5 => k_is); (case c5 => k_is); (case k5 => k_is)
    (case a6 => k_is); (case l6 => k_is); (case c6 => k_is); (case k6 => k_is)
    (case a7 => k_is); (case l7 => k_is); (case c7 => k_is); (case k7 => k_is)
    (case a8 => k_is); (case l8 => k_is); (case c8 => k_is); (case k8 => k_is)
    (case a9 => k_is); (case l9 => k_is); (case c9 => k_is); (case k9 => k_is)
    (case a10 => k_is); (case l10 => k_is); (case c10 => k_is); (case k10 => k_is)
    (case a11 => k_is); (case l11 => k_is); (case c11 => k_is); (case k11 => k_is)
    (case a12 => k_is); (case l12 => k_is); (case c12 => k_is); (case k12 => k_is)
    (case a13 => k_is); (case l13 => k_is); (case c13 => k_is); (case k13 => k_is)
    (case a14 => k_is); (case l14 => k_is); (case c14 => k_is); (case k14 => k_is)
    (case a15 => k_is); (case l15 => k_is); (case c15 => k_is); (case k15 => k_is)
    (case a16 => k_is); (case l16 => k_is); (case c16 => k_is); (case k16 => k_is)
    (case a17 => k_is); (case l17 => k_is); (case c17 => k_is); (case k17 => k_is)
    (case a18 => k_is); (case l18 => k_is); (case c18 => k_is); (case k18 => k_is)
    (case a19 => k_is); (case l19 => k_is); (case c19 => k_is); (case k19 => k_is)
    (case a20 => k_is); (case l20 => k_is); (case c20 => k_is); (case k20 => k_is)
    (case a21 => k_is); (case l21 => k_is); (case c21 => k_is); (case k21 => k_is)
    (case a22 => k_is); (case l22 => k_is); (case c22 => k_is); (case k22 => k_is)
    (case a23 => k_is); (case l23 => k_is); (case c23 => k_is); (case k23 => k_is)
    (case a24 => k_is); (case l24 => k_is); (case c24 => k_is); (case k24 => k_is)
    (case a25 => k_is); (case l25 => k_is); (case c25 => k_is); (case k25 => k_is)
    (case a26 => k_is); (case l26 => k_is); (case c26 => k_is); (case k26 => k_is)
    (case a27 => k_is); (case l27 => k_is); (case c27 => k_is); (case k27 => k_is)
    (case a28 => k_is); (case l28 => k_is); (case c28 => k_is); (case k28 => k_is)
    (case a29 => k_is); (case l29 => k_is); (case c29 => k_is); (case k29 => k_is)
    (case a30 => k_is); (case l30 => k_is); (case c30 => k_is); (case k30 => k_is)
    (case a31 => k_is); (case l31 => k_is); (case c31 => k_is); (case k31 => k_is)
    (case a32 => k_is); (case l32 => k_is); (case c32 => k_is); (case k32 => k_is)
    (case a33 => k_is); (case l33 => k_is); (case c33 => k_is); (case k33 => k_is)
    (case lc4 => k_is); (case v4 => exact rfl); (case nP4 => exact rfl); (case r4 => decide +kernel)
    (case lc5 => k_is); (case v5 => exact rfl); (case nP5 => exact rfl); (case r5 => decide +kernel)
    (case lc9 => k_is); (case v9 => exact rfl); (case nP9 => exact rfl); (case r9 => decide +kernel)
    (case lc10 => k_is); (case v10 => exact rfl); (case nP10 => exact rfl); (case r10 => decide +kernel)
    (case lc11 => k_is); (case v11 => exact rfl); (case nP11 => exact rfl); (case r11 => decide +kernel)
    (case lc12 => k_is); (case v12 => exact rfl); (case nP12 => exact rfl); (case r12 => decide +kernel)
    (case lc13 => k_is); (case v13 => exact rfl); (case nP13 => exact rfl); (case r13 => decide +kernel)
    (case lc15 => k_is); (case v15 => exact rfl); (case nP15 => exact rfl); (case r15 => decide +kernel)
    (case x_PP => decide)
    (case z_all => k_is); (case z_any => k_is); (case z_bool => k_is); (case z_divmod => k_is); (case z_enumerate => k_is); (case z_int => k_is); (case z_isinstance => k_is); (case z_len => k_is); (case z_list => k_is); (case z_max => k_is); (case z_min => k_is); (case z_range => k_is); (case z_sorted => k_is); (case z_str => k_is); (case z_tuple => k_is); (case z_zip => k_is)

