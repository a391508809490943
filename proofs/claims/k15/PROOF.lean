import PyProof.Rows.All
import Wide.All
import OpenK.AllK
import Wide.FinOn
import HandS.ForMost
import HandS.WideBits
import HandS.IsInst
import HandS.Style
import HandS.AnyAll
import HandS.Nested
import HandS.Walk
import HandS.Evl
import HandS.EndTab
import HandS.SortInts
import HandS.SortRule
import HandS.Conv
import HandS.Star
import HandS.Codes
import HandS.Wide
import HandS.Zip
import HandS.DictComp
import HandS.SetFor
import HandS.SetKeys
import HandS.StrMore
import HandS.Replace
import PyProof.ReprRoads
import PyProof.ReprLen
import HandS.Small
import HandS.More
import KE.KDictPairs
import KE.GoesMore
import KE.GoesEnum
import PyProof.SumAny
import PyProof.WalksPairs
import PyProof.GenCompT
import HandS.GenList
import HandS.Lambda
import KE.SortData
import KE.DataCmp
import PyProof.ListStr
import PySem.Challenge.RW_tinrecall_k15_places_of_many_marks
set_option Elab.async false
set_option linter.all false
set_option maxRecDepth 100000
set_option maxHeartbeats 5000000
/-! ## sum(.. for a, b in ..): a generator expression over a list or a tuple of pairs of whole numbers -/
namespace GP
open PySem PySem.Spec PyProof.Rows L2 GxR

/-- a walk whose items are tuples that stand still -/
theorem asTuples {prog : Program} {w : World} {A : Around} {it : Addr} {foot : List Addr} {n : Nat} {Item : Nat → Value → Prop} {At : Nat → Heap → Prop} (W : Walks prog w A it foot [it] n Item At) (loc : Nat → Addr) (held : Nat → Array Value)
    (isT : ∀ j v, j < n → Item j v → v = .ref (loc j)) (apt : ∀ j, j < n → loc j ≠ it)
    (letGo : ∀ (es : List Expr) (k : Nat) (pos : Pos) (j : Nat) (T : Addr) (s : Shared) (Q : Unit → Shared → Prop) (E : Value → Shared → Prop), At j s.heap → Q () s → wpAny (model prog w) A (letOwnedTupleGo (.Tuple es k pos) (.ref it) (.ref T)) Q E s) :
    WalksU prog w A it (foot ++ (List.range n).map loc) [it] n (fun j xs => xs = held j) (fun j h => At j h ∧ ∀ m, m < n → h.IsTuple (loc m) (held m))
      (fun j T h => (j < n ∧ T = loc j) ∧ At (j + 1) h ∧ ∀ m, m < n → h.IsTuple (loc m) (held m)) := by
  have inFoot : ∀ m, m < n → loc m ∈ foot ++ (List.range n).map loc := fun m hm => List.mem_append.mpr (.inr (List.mem_map.mpr ⟨m, List.mem_range.mpr hm, rfl⟩))
  constructor
  case sub => exact fun b hb => List.mem_append.mpr (.inl (W.sub b hb))
  case frame =>
    intro j h h' ⟨a1, a2⟩ kept
    refine ⟨W.frame j h h' a1 fun b hb => kept b (List.mem_append.mpr (.inl hb)), fun m hm => ?_⟩
    obtain ⟨o, e, r⟩ := a2 m hm
    exact ⟨o, kept _ (inFoot m hm) o e, r⟩
  case item =>
    intro j s Q E hj ⟨a1, a2⟩ fin
    refine W.item j s Q E hj a1 fun v h' tk hv a1' kept => ?_
    have still : ∀ m, m < n → h'.IsTuple (loc m) (held m) := fun m hm => by
      obtain ⟨o, e, r⟩ := a2 m hm
      exact ⟨o, kept _ o (fun z => apt m hm (List.mem_singleton.mp z)) e, r⟩
    rw [isT j v hj hv]
    exact fin (loc j) (held j) h' tk rfl (still j hj) ⟨⟨hj, rfl⟩, a1', still⟩ kept
  case go =>
    intro es k pos j T s Q E hm fin
    exact letGo es k pos (j + 1) T s Q E hm.2.1 (fin s.heap hm.2 fun _ _ _ e => e)
  case apart =>
    intro j T h hm z
    rw [hm.1.2] at z
    exact apt j hm.1.1 (List.mem_singleton.mp z)
  case done => exact fun s Q E a fin => W.done s Q E a.1 fin
  case self => exact fun j s Q E a fin => W.self j s Q E a.1 fin

/-- the values vs are tuples that hold the pairs ps -/
def Prs (H : Hp) (vs : List V) (ps : List (Int × Int)) : Prop := vs.length = ps.length ∧ ∀ (i : Nat) p, ps[i]? = some p → ∃ a, vs[i]? = some (.ref a) ∧ H a = some (.tup [.int p.1, .int p.2])

/-- what is asked of the expression's own scope: the two names are its locals, its captured names are the def's -/
def OwnScope (env : Env) (sc : Scope) (xa xb : Str) : Prop :=
  (sc.kind = .function ∧ sc.isCoroutine = false ∧ xa ≠ xb) ∧ (sc.names.lookup (".0" : Str) = some .local ∧ sc.names.lookup xa = some .local ∧ sc.names.lookup xb = some .local) ∧
  (∀ y ∈ sc.names, y.2 ≠ NameKind.cell) ∧ ∀ y ∈ sc.names, y.2 = NameKind.free → ∃ c, env.cells.lookup y.1 = some c

section
variable {X : Cx} {s : Shared} {H : Hp} {σ : L2.St} {pins : List (Addr × Obj)}
/-- a tracked pair in the machine's heap -/
theorem pair_in {T : Addr} {p : Int × Int} (I : Inv X pins σ H s) (e : H T = some (.tup [.int p.1, .int p.2])) : ∃ ta tb, s.heap.IsTuple T #[.int p.1 ta, .int p.2 tb] := by
  obtain ⟨_, its, r, t⟩ := I.hok T _ e
  cases r with
  | cons q1 r =>
    cases r with
    | cons q2 r =>
      cases r
      obtain ⟨ta, rfl⟩ := q1
      obtain ⟨tb, rfl⟩ := q2
      exact ⟨ta, tb, t⟩
/-- the pairs by place: where they stand and what they hold -/
theorem pairs_in {vs : List V} {ps : List (Int × Int)} {its : List Value} (I : Inv X pins σ H s) (hp : Prs H vs ps) (r : Vals vs its) :
    ∃ (loc : Nat → Addr) (held : Nat → Array Value), ∀ j, j < ps.length → its[j]? = some (.ref (loc j)) ∧ s.heap.IsTuple (loc j) (held j) ∧ ∃ p ta tb, ps[j]? = some p ∧ held j = #[.int p.1 ta, .int p.2 tb] := by
  have one : ∀ j, ∃ (T : Addr) (xs : Array Value), j < ps.length → its[j]? = some (.ref T) ∧ s.heap.IsTuple T xs ∧ ∃ p ta tb, ps[j]? = some p ∧ xs = #[.int p.1 ta, .int p.2 tb] := fun j => by
    by_cases hj : j < ps.length
    · obtain ⟨T, e1, e2⟩ := hp.2 j ps[j] (List.getElem?_eq_getElem hj)
      obtain ⟨u, eu, ru⟩ := r.get e1
      cases ru
      obtain ⟨ta, tb, t⟩ := pair_in I e2
      exact ⟨T, _, fun _ => ⟨eu, t, ps[j], ta, tb, List.getElem?_eq_getElem hj, rfl⟩⟩
    · exact ⟨0, #[], fun z => absurd z hj⟩
  exact ⟨fun j => (one j).choose, fun j => (one j).choose_spec.choose, fun j hj => (one j).choose_spec.choose_spec hj⟩

/-- what a walk over the pairs is, begun at the new iterator that o is -/
def Begun (X : Cx) (s : Shared) (P : Addr) (ps : List (Int × Int)) (o : Obj) : Prop :=
  ∃ (foot : List Addr) (Hold : Nat → Array Value → Prop) (At : Nat → Heap → Prop) (Mid : Nat → Addr → Heap → Prop),
    (∀ A' : Around, A'.handled = none → WalksU X.prog X.w A' s.heap.objs.size foot [s.heap.objs.size] ps.length (fun j xs => j < ps.length ∧ Hold j xs) At Mid) ∧
    (∀ j xs, j < ps.length → Hold j xs → ∃ p ta tb, ps[j]? = some p ∧ xs = #[.int p.1 ta, .int p.2 tb]) ∧ At 0 (s.heap.push o) ∧ ∀ b ∈ foot, b < s.heap.objs.size + 1 ∧ b ≠ P
theorem begin_pairs {a P : Addr} {vs : List V} {ps : List (Int × Int)} {tb : Array Value} {Q' : Value → Shared → Prop} (I : Inv X pins σ H s) (hS : SqL X.K H a vs ∨ SqT X.K H a vs) (hp : Prs H vs ps) (hP : H P = some (.tbl tb))
    (fin : ∀ o, Begun X s P ps o → Q' (.ref s.heap.objs.size) { s with heap := s.heap.push o }) : wpAny (model X.prog X.w) X.A (pyIter (.ref a)) Q' X.xe s := by
  have hPo : s.heap.get? P = some { cls := .none, data := .fields tb } := I.hok P _ hP
  have notP : ∀ (b : Addr) (o : Obj) (xs : Array Value) (n : Nat), s.heap.get? b = some o → o.data = .seq xs n → b ≠ P := fun b o xs n e d z => by
    rw [z, hPo] at e
    rw [← Option.some.inj e] at d
    cases d
  have newP : s.heap.objs.size ≠ P := fun z => Nat.lt_irrefl _ (Nat.lt_of_lt_of_eq (Heap.lt_size hPo) z)
  -- from a walk over the items to the pairs
  have mk : ∀ (its : List Value) (o : Obj) (At : Nat → Heap → Prop), Vals vs its → a < s.heap.objs.size → a ≠ P → At 0 (s.heap.push o) →
      (∀ A' : Around, A'.handled = none → Walks X.prog X.w A' s.heap.objs.size [s.heap.objs.size, a] [s.heap.objs.size] its.toArray.size (fun i v => its.toArray[i]? = some v) At) →
      (∀ (A' : Around) (es : List Expr) (k : Nat) (pos : Pos) (j : Nat) (T : Addr) (s' : Shared) (Q : Unit → Shared → Prop) (E : Value → Shared → Prop), At j s'.heap → Q () s' → wpAny (model X.prog X.w) A' (letOwnedTupleGo (.Tuple es k pos) (.ref s.heap.objs.size) (.ref T)) Q E s') →
      Begun X s P ps o := by
    intro its o At r ha haP a0 W go
    obtain ⟨loc, held, hl⟩ := pairs_in I hp r
    have ln : its.toArray.size = ps.length := by rw [List.size_toArray, ← r.length, hp.1]
    have below : ∀ m, m < ps.length → loc m < s.heap.objs.size ∧ loc m ≠ P := fun m hm => by
      obtain ⟨_, ⟨ob, e, _, n, d⟩, _⟩ := hl m hm
      exact ⟨Heap.lt_size e, notP _ _ _ _ e d⟩
    refine ⟨_, _, _, _, fun A' hA => (asTuples (ln ▸ W A' hA) loc held (fun j v hj e => ?_) (fun j hj => Nat.ne_of_lt (below j hj).1) (fun es k pos j T s' Q E => go A' es k pos j T s' Q E)).bound, fun j xs hj e => ?_, ⟨a0, fun m hm => ?_⟩, fun b hb => ?_⟩
    · have e2 : its[j]? = some v := by simpa using e
      rw [(hl j hj).1] at e2
      exact (Option.some.inj e2).symm
    · obtain ⟨_, _, p, ta, tb', e1, e2⟩ := hl j hj
      exact ⟨p, ta, tb', e1, (show xs = held j from e).trans e2⟩
    · obtain ⟨_, ⟨ob, e, rest⟩, _⟩ := hl m hm
      exact ⟨ob, Heap.get?_push_of_some _ e, rest⟩
    · rcases List.mem_append.mp hb with z | z
      · rcases List.mem_cons.mp z with e | e
        · rw [e]; exact ⟨Nat.lt_succ_self _, newP⟩
        · rw [List.mem_singleton.mp e]; exact ⟨Nat.lt_succ_of_lt ha, haP⟩
      · obtain ⟨m, hm, e⟩ := List.mem_map.mp z
        obtain ⟨h1, h2⟩ := below m (List.mem_range.mp hm)
        rw [← e]; exact ⟨Nat.lt_succ_of_lt h1, h2⟩
  rcases hS with hS | hS
  · obtain ⟨its, r, hl, _⟩ := I.list hS
    obtain ⟨o, e, c, n, d⟩ := hl.isList
    refine wpAny_pyIter_list hl.isList (fin _ (mk its _ _ r (Heap.lt_size e) (notP _ _ _ _ e d) ⟨⟨_, Heap.get?_push_size _ rfl, rfl, rfl⟩, ⟨o, Heap.get?_push_of_some _ e, c, n, d⟩⟩ (fun A' hA => Walks.list hA _ a (Nat.ne_of_lt (Heap.lt_size e)) its.toArray) ?_))
    exact fun A' es k pos j T s' Q E at_ q => wpAny_letOwnedTupleGo_listiter at_.1 q
  · obtain ⟨its, r, ⟨o, e, c, n, d⟩, _⟩ := I.tuple hS
    refine wpAny_pyIter_tuple (items := its.toArray) ⟨o, e, c, n, d⟩ (fin _ (mk its _ _ r (Heap.lt_size e) (notP _ _ _ _ e d) ⟨⟨_, Heap.get?_push_size _ rfl, rfl, rfl⟩, ⟨o, Heap.get?_push_of_some _ e, c, n, d⟩⟩ (fun A' hA => Walks.tuple hA _ a (Nat.ne_of_lt (Heap.lt_size e)) its.toArray) ?_))
    exact fun A' es k pos j T s' Q E at_ q => letGo_tupleiter at_.1 q

/-- the expression's code object is made, or found: the table may grow, all else stands -/
theorem code_there {c P : Addr} {gpos : Pos} {qual : Str} {sc : Scope} {tb : Array Value} {Q' : Value → Shared → Prop} {E : Value → Shared → Prop} (hcode : X.env.code = .ref c) (C : PySem.W.CodeHd s.heap c P) (hP : s.heap.get? P = some { cls := .none, data := .fields tb }) (ok : TriplesOk tb.toList)
    (fin : ∀ (code : Value) (h' : Heap) (tk : Nat) (more : Array Value), Heap.ExtBut P s.heap h' → s.heap.objs.size ≤ h'.objs.size → h'.get? P = some { cls := .none, data := .fields (tb ++ more) } → TriplesOk (tb ++ more).toList → Q' code { s with heap := h', toks := tk }) :
    wpAny (model X.prog X.w) X.A (genexprCode X.env gpos qual sc) Q' E s := by
  cases found : codeAmong gpos tb.toList with
  | some old =>
    refine wpAny_genexprCode_hit hcode (C.code hP ok) found ?_
    have e : tb ++ #[] = tb := by simp
    exact fin old s.heap s.toks #[] (Heap.ExtBut.refl _ _) (Nat.le_refl _) (by rw [e]; exact hP) (by rw [e]; exact ok)
  | none =>
    refine wpAny_genexprCodeX hcode (C.code hP ok) (C.tab hP) found fun c' h' tk ext le lt isC _ tab _ => ?_
    obtain ⟨_, _, _, _, _, _, _, _, _, _, _, _, _, _, _, _, _, _, _, okT, _⟩ := isC
    exact fin _ h' tk _ ext (Nat.le_trans le (Nat.le_of_lt lt)) tab.2 okT

/-- the element at a pair of whole numbers: what it gives, wherever the expression runs later -/
def EltAt (X : Cx) (s₁ : Shared) (P : Addr) (sc : Scope) (xa xb : Str) (elt : Expr) (Gives : Int → Int → Value → Prop) : Prop :=
  ∀ (L : Addr) (code : Value) (A' : Around) (E' : Value → Shared → Prop) (a b : Int) (ta tb : Tok) (s₂ : Shared) (m : Str → Option Value), A'.handled = none →
    (∀ x o, x ≠ P → s₁.heap.get? x = some o → s₂.heap.get? x = some o) → s₂.heap.Ns L m → m xa = some (.int a ta) → m xb = some (.int b tb) →
    wpAny (model X.prog X.w) A' (eval elt (genEnv sc (cloFrom X.env.cells sc.names []) L code builtinsNs X.env)) (fun y s₃ => Gives a b y ∧ Keeps s₂ s₃) E' s₂

/-- the generator at g, in the state s₅, before its first item; H₁: what was held when it was made -/
def Fresh (X : Cx) (pins : List (Addr × Obj)) (σ : L2.St) (H₁ : Hp) (P : Addr) (ps : List (Int × Int)) (Gives : Int → Int → Value → Prop) (g : Addr) (s₅ : Shared) : Prop :=
  ∃ (foot writes : List Addr) (Gens : Array GenState → Array GenState → Prop) (Item : Nat → Value → Prop) (At : Nat → Shared → Prop),
    (WalksS X.prog X.w X.A.in1 g foot writes Gens ps.length Item At ∧ At 0 s₅ ∧ ∀ b ∈ foot, b < s₅.heap.objs.size) ∧
    (∀ j v, Item j v → ∃ p, ps[j]? = some p ∧ Gives p.1 p.2 v) ∧ ∀ s₆, Moved writes Gens s₅ s₆ → ∃ H₂, Tabbed P H₁ H₂ ∧ Inv X pins σ H₂ s₆

theorem gen_made {c P : Addr} {elt iter : Expr} {xa xb : Str} {pa pb pt gpos : Pos} {kt : Nat} {sc : Scope} {te : TE} {k : Nat} {Q' : Value → Shared → Prop} {Want : List (Int × Int) → Hp → Prop} {Gives : Int → Int → Value → Prop}
    (room : Room k X.A) (TB : TabB X.base X.mg c P) (hcode : X.env.code = .ref c) (own : OwnScope X.env sc xa xb) (walked : PE X iter te) (plain : ∀ v, genFold iter X.env v = pure v) (I : Inv X pins σ H s)
    (each : ∀ s₁ H₁, Inv X pins σ H₁ s₁ → TabG H₁ P → EltAt X s₁ P sc xa xb elt Gives)
    (h : te σ H fun v H₁ => ∃ (a : Addr) (vs : List V) (ps : List (Int × Int)), v = .ref a ∧ (SqL X.K H₁ a vs ∨ SqT X.K H₁ a vs) ∧ Prs H₁ vs ps ∧ TabG H₁ P ∧ Want ps H₁)
    (fin : ∀ ps H₁ g s₅, Want ps H₁ → Fresh X pins σ H₁ P ps Gives g s₅ → Q' (.ref g) s₅) :
    wpAny (model X.prog X.w) X.A (eval (.GeneratorExp elt [⟨.Tuple [.Name xa pa, .Name xb pb] kt pt, iter, [], 0⟩] sc gpos) X.env) Q' X.xe s := by
  obtain ⟨⟨o1, o2, o3⟩, ⟨o4, o5, o6⟩, o7, o8⟩ := own
  have deep : X.A.depth < recursionLimit := by have := room.dp; omega
  refine wpAny_GeneratorExp_walksQT room.hd o2 (closure_ok o8) o7 o4 o5 o6 o3 o1 deep (thn (walked.run pins s σ H _ I h) fun u s₁ had => ?_) plain
  obtain ⟨_, H₁, I₁, rel, a, vs, ps, rfl, hS, hp, ⟨tb, hP, ok⟩, want⟩ := had
  cases rel
  have tabAt : s₁.heap.get? P = some { cls := .none, data := .fields tb } := I₁.hok P _ hP
  refine begin_pairs I₁ hS hp hP fun o beg => ?_
  obtain ⟨foot, Hold, At, Mid, W, holds, at0, low⟩ := beg
  have statics : cStatics < s₁.heap.objs.size ∧ cStatics ≠ P := by
    obtain ⟨_, ns, _⟩ := I₁.nolimit
    refine ⟨ns.lt, fun z => ?_⟩
    obtain ⟨ob, _, _, e, d, _⟩ := ns
    rw [z, tabAt] at e
    rw [← Option.some.inj e] at d
    cases d
  have quiet : (s₁.heap.push o).NoLimit := I₁.nolimit.push o
  refine ⟨quiet, code_there hcode (TB.code.keeps fun b u e => Heap.get?_push_of_some _ (I₁.bk b u e)) (Heap.get?_push_of_some _ tabAt) ok fun code h₃ tk more ext le tab₃ ok₃ => ?_⟩
  rw [Heap.size_push] at le
  have stays : ∀ b u, b ≠ P → s₁.heap.get? b = some u → h₃.get? b = some u := fun b u hb e => ext b u hb (Heap.get?_push_of_some _ e)
  obtain ⟨bm, ob, f1, f2, f3, f4, f5, f6, f7, f8⟩ := TB.bm
  have globals : Heap.Ns h₃ X.env.globals X.mg := by
    rw [I₁.ok.glob]
    exact ((I₁.mod.glob.keeps I₁.bk).push o).extBut ext TB.gP
  refine wpAny_builtinsFor (m := X.mg) globals f1 f2 (stays bm ob f4 (I₁.bk bm ob f5)) f6 f7 f8 ?_
  have later : ∀ b u, s₁.heap.get? b = some u → b ∉ [h₃.objs.size, s₁.heap.objs.size] := fun b u e z => by
    have lt := Heap.lt_size e
    rcases List.mem_cons.mp z with z' | z'
    · exact Nat.lt_irrefl _ (Nat.lt_of_lt_of_le (z' ▸ lt) (Nat.le_of_succ_le le))
    · exact Nat.lt_irrefl _ (List.mem_singleton.mp z' ▸ lt)
  refine ⟨_, _, _, _, _, _, _, fun _ => true, fun i y => i < ps.length → ∃ p, ps[i]? = some p ∧ Gives p.1 p.2 y, rfl, W, fun i xs hx => ?_, ?_, fun b hb => Nat.lt_of_lt_of_le (low b hb).1 le, quiet.extBut ext statics.2, fun z => Nat.ne_of_lt statics.1 (List.mem_singleton.mp z), fun ref kept => ⟨?_, ?_⟩, ?_⟩
  · obtain ⟨p, ta, tb', _, e⟩ := holds i xs hx.1 hx.2
    exact ⟨_, _, e⟩
  · exact (W X.A room.hd).frame _ _ _ at0 fun b hb u e => ext b u (low b hb).2 e
  · intro A' E' i va vb s₂ m _ _ _ _ _ _
    rw [List.forIn_nil]
    exact wpAny_pure ⟨rfl, _, _, rfl, fun _ _ e => e⟩
  · intro A' E' i va vb s₂ m calm hx _ ns ea eb still
    obtain ⟨p, ta, tb', ep, e⟩ := holds i _ hx.1 hx.2
    have e1 : va = .int p.1 ta := by have z := congrArg (·[0]?) e; simpa using z
    have e2 : vb = .int p.2 tb' := by have z := congrArg (·[1]?) e; simpa using z
    subst e1 e2
    refine wpAny_mono (each s₁ H₁ I₁ ⟨tb, hP, ok⟩ _ code A' E' p.1 p.2 ta tb' s₂ m calm (fun b u hb q => ?_) ns ea eb) (fun y s₃ r => ⟨fun _ => ⟨p, ep, r.1⟩, r.2⟩) fun _ _ q => q
    have q3 := stays b u hb q
    exact still b (List.mem_range.mpr (Heap.lt_size q3)) (fun z => later b u q (List.mem_cons_of_mem _ z)) u (kept b u q3)
  · intro g h₅ tk₅ gs bare above size kept W₅ at₅
    rw [GxR.passing_true, List.length_range] at W₅
    have above' : h₃.objs.size < g := above
    have size' : h₅.objs.size = g + 1 := size
    refine fin ps H₁ g _ want ⟨_, _, _, _, _, ⟨W₅.in4_1, at₅, fun b hb => ?_⟩, fun j v it => ?_, fun s₆ mv => ?_⟩
    · show b < h₅.objs.size
      rw [size']
      rcases List.mem_cons.mp hb with eg | e
      · rw [eg]; exact Nat.lt_succ_self g
      · refine Nat.lt_succ_of_le (Nat.le_trans ?_ (Nat.le_of_lt above'))
        rcases List.mem_cons.mp e with e' | e'
        · rw [e']; exact Nat.le_refl _
        · exact Nat.le_of_lt (List.mem_range.mp e')
    · obtain ⟨i, ei, hg⟩ := it
      have lt : j < ps.length := by
        have z := (List.getElem?_eq_some_iff.mp ei).1
        rwa [List.length_range] at z
      rw [List.getElem?_range lt] at ei
      cases ei
      exact hg lt
    · have all : ∀ b u, b ≠ P → s₁.heap.get? b = some u → s₆.heap.get? b = some u := fun b u hb e => mv.heap b u (later b u e) (kept b u (stays b u hb e))
      have tab₆ := mv.heap P _ (later P _ tabAt) (kept P _ tab₃)
      have J := inv_tab (more := more) (d' := s₆.drawn) (t' := s₆.toks) I₁ hP all tab₆ (AllBare.movedS (I₁.bare.push bare) mv)
      rw [sh_eta s₁ s₆ mv.os] at J
      exact ⟨_, ⟨⟨tb ++ more, upd_same, ok₃⟩, fun b hb => upd_ne hb⟩, J⟩

/-- the sum of g over the pairs -/
def sumP (g : Int → Int → Int) (ps : List (Int × Int)) : Int := (ps.map fun p => g p.1 p.2).sum
theorem preSum_is (g : Int → Int → Int) (ps : List (Int × Int)) (val : Nat → Int) (h : ∀ i p, ps[i]? = some p → val i = g p.1 p.2) : ∀ n, n ≤ ps.length → preSum val n = sumP g (ps.take n)
  | 0, _ => rfl
  | n + 1, hn => by
    have e : ps[n]? = some ps[n] := List.getElem?_eq_getElem hn
    show preSum val n + val n = _
    rw [preSum_is g ps val h n (by omega), h n _ e]
    unfold sumP
    rw [List.take_add_one, e, List.map_append, List.sum_append]
    show _ = _ + (g ps[n].1 ps[n].2 + 0)
    rw [Int.add_zero]
/-- what the reading of sum(..), any(..) over pairs asks: what is captured (Cap), the pairs, the table; then the answer -/
def tOver {α : Type} (K : PySem.W.Frag) (P : Addr) (Cap : L2.St → α → Prop) (ans : α → List (Int × Int) → V) (te : TE) : TE := fun σ H Q => ∃ x : α, Cap σ x ∧ te σ H fun v H₁ => ∃ (a : Addr) (vs : List V) (ps : List (Int × Int)), v = .ref a ∧ (SqL K H₁ a vs ∨ SqT K H₁ a vs) ∧ Prs H₁ vs ps ∧ TabG H₁ P ∧
  ∀ H₂, Tabbed P H₁ H₂ → Q (ans x ps) H₂
/-- how a built-in takes a generator over pairs -/
def Takes2 (X : Cx) (name : String) (Gives : Int → Int → Value → Prop) (ans : List (Int × Int) → V) : Prop :=
  ∀ (pins : List (Addr × Obj)) (σ : L2.St) (P : Addr) (ps : List (Int × Int)) (H₁ : Hp) (gen : Addr) (s₅ : Shared) (Q : VK), Fresh X pins σ H₁ P ps Gives gen s₅ → (∀ H₂, Tabbed P H₁ H₂ → Q (ans ps) H₂) →
    wpAny (model X.prog X.w) X.A (call (.builtin name) [.ref gen]) (EP X pins σ Q) X.xe s₅
theorem pe_over {α : Type} {name : String} {x : Str} {c P : Addr} {elt iter : Expr} {xa xb : Str} {pa pb pt p pos gpos : Pos} {kt : Nat} {sc : Scope} {Cap : L2.St → α → Prop} {Gives : α → Int → Int → Value → Prop} {ans : α → List (Int × Int) → V} {te : TE} {k : Nat} (takes : ∀ y, Takes2 X name (Gives y) (ans y))
    (room : Room k X.A) (glob : Gl X x) (free : X.mg x = none) (bltn : bootBuiltins x = some (.builtin name)) (TB : TabB X.base X.mg c P) (hcode : X.env.code = .ref c) (own : OwnScope X.env sc xa xb) (walked : PE X iter te)
    (each : ∀ pins σ s₁ H₁ y, Inv X pins σ H₁ s₁ → TabG H₁ P → Cap σ y → EltAt X s₁ P sc xa xb elt (Gives y)) (plain : ∀ v, genFold iter X.env v = pure v) (n1 : x ≠ "__name__" := by decide) (n2 : (x == ("__debug__" : Str)) = false := by decide)
    (one : starEach [.GeneratorExp elt [⟨.Tuple [.Name xa pa, .Name xb pb] kt pt, iter, [], 0⟩] sc gpos] X.env = [(false, eval (.GeneratorExp elt [⟨.Tuple [.Name xa pa, .Name xb pb] kt pt, iter, [], 0⟩] sc gpos) X.env)] := by rfl) :
    PE X (.Call (.Name x p) [.GeneratorExp elt [⟨.Tuple [.Name xa pa, .Name xb pb] kt pt, iter, [], 0⟩] sc gpos] [] pos) (tOver X.K P Cap ans te) := by
  constructor
  intro pins s σ H Q I h
  obtain ⟨y, cap, h⟩ := h
  refine wpAny_Call_Name_kw (ld_blt I glob free bltn (callWith_builtin1 ?_ one (by rfl)) n1 n2)
  rw [one]
  refine Calls.spliced_cons (gen_made (Want := fun ps H₁ => ∀ H₂, Tabbed P H₁ H₂ → Q (ans y ps) H₂) (Gives := Gives y) room TB hcode own walked plain I (fun s₁ H₁ J g => each pins σ s₁ H₁ y J g cap) h fun ps H₁ gen s₅ want fresh => Calls.spliced_nil ?_)
  exact takes y pins σ P ps H₁ gen s₅ Q fresh want
theorem takes_sum (g : Int → Int → Int) : Takes2 X "sum" (fun a b y => ∃ t, y = .int (g a b) t) (fun ps => .int (sumP g ps)) := by
  intro pins σ P ps H₁ gen s₅ Q fresh want
  obtain ⟨foot, writes, Gens, Item, At, ⟨W, a0, low⟩, items, behind⟩ := fresh
  let val : Nat → Int := fun i => (ps[i]?.map fun p => g p.1 p.2).getD 0
  have hv : ∀ i p, ps[i]? = some p → val i = g p.1 p.2 := fun i p e => by show (ps[i]?.map _).getD 0 = _; rw [e]; rfl
  refine call_sum_walkAnyS (W.self 0 _ _ _ a0 ⟨gen, foot, writes, Gens, ps.length, Item, At, val, rfl, W, a0, low, fun i v it => ?_, fun s₆ t mv => ?_⟩)
  · obtain ⟨p, e, t, ev⟩ := items i v it
    exact ⟨t, by rw [hv i p e]; exact ev⟩
  · obtain ⟨H₂, tabbed, J⟩ := behind s₆ mv
    refine ⟨.int (preSum val ps.length), H₂, J, ⟨t, rfl⟩, ?_⟩
    rw [preSum_is g ps val hv ps.length (Nat.le_refl _), List.take_length]
    exact want H₂ tabbed
def anyP (g : Int → Int → Bool) (ps : List (Int × Int)) : Bool := ps.any fun p => g p.1 p.2
theorem any_is {α : Type} (ps : List α) (f : α → Bool) (tr : Nat → Bool) (h : ∀ i p, ps[i]? = some p → tr i = f p) : (List.range ps.length).any tr = ps.any f := by
  rw [Bool.eq_iff_iff, List.any_eq_true (l := List.range _), List.any_eq_true]
  constructor
  · rintro ⟨i, hi, e⟩
    have lt := List.mem_range.mp hi
    exact ⟨ps[i], List.getElem_mem lt, by rw [← h i _ (List.getElem?_eq_getElem lt)]; exact e⟩
  · rintro ⟨p, hp, e⟩
    obtain ⟨i, lt, rfl⟩ := List.getElem_of_mem hp
    exact ⟨i, List.mem_range.mpr lt, by rw [h i _ (List.getElem?_eq_getElem lt)]; exact e⟩
theorem takes_any (g : Int → Int → Bool) : Takes2 X "any" (fun a b y => y = .bool (g a b)) (fun ps => .bl (anyP g ps)) := by
  intro pins σ P ps H₁ gen s₅ Q fresh want
  obtain ⟨foot, writes, Gens, Item, At, ⟨W, a0, low⟩, items, behind⟩ := fresh
  let tr : Nat → Bool := fun i => (ps[i]?.map fun p => g p.1 p.2).getD false
  have ht : ∀ i p, ps[i]? = some p → tr i = g p.1 p.2 := fun i p e => by show (ps[i]?.map _).getD false = _; rw [e]; rfl
  refine call_any_walkS (W.self 0 _ _ _ a0 ⟨gen, foot, writes, Gens, ps.length, Item, At, tr, rfl, W, a0, fun i v s' Q' E' it q => ?_, fun s₆ mv => ?_⟩)
  · obtain ⟨p, e, rfl⟩ := items i v it
    rw [ht i p e] at q
    exact wpAny_truthy_bool q
  · obtain ⟨H₂, tabbed, J⟩ := behind s₆ mv
    refine ⟨.bl _, H₂, J, rfl, ?_⟩
    rw [any_is ps (fun p => g p.1 p.2) tr ht]
    exact want H₂ tabbed
/-- a whole number that the expression captures, as its cell has it -/
theorem captured {i : Nat} {y : Str} {n : Int} {P : Addr} (I : Inv X pins σ H s) (hN : X.N[i]? = some y) (hk : X.env.scope.names.lookup y = some .cell) (hv : σ[i]? = some (some (.int n))) (g : TabG H P) :
    ∃ c t, X.env.cells.lookup y = some c ∧ s.heap.IsCell c (some (.int n t)) ∧ c ≠ P := by
  obtain ⟨tb, hP, _⟩ := g
  obtain ⟨m, _, look⟩ := I.loc
  obtain ⟨u, ⟨t, rfl⟩, l⟩ := look i y _ hN hv (.inr (.inl hk))
  rcases l with ⟨z, _⟩ | ⟨_, c, e, o, ho, hd⟩
  · rw [show X.env.kindOf y = some .cell from hk] at z
    cases z
  · refine ⟨c, t, e, ⟨o, ho, hd⟩, fun z => ?_⟩
    rw [z, I.hok P _ hP] at ho
    rw [← Option.some.inj ho] at hd
    cases hd
/-- the names of the module and the built-in ones, where the expression runs -/
theorem names_in {P : Addr} {s₂ : Shared} (I : Inv X pins σ H s) (g : TabG H P) (gP : mainGlobals ≠ P) (kept : ∀ x o, x ≠ P → s.heap.get? x = some o → s₂.heap.get? x = some o) :
    s₂.heap.Ns mainGlobals X.mg ∧ ∃ mb, s₂.heap.Ns builtinsNs mb ∧ ∀ x : Str, x ≠ "__name__" → mb x = bootBuiltins x := by
  obtain ⟨tb, hP, _⟩ := g
  obtain ⟨mb, b1, b2⟩ := I.mod.blt
  have at_ : ∀ b m, b ≠ P → s.heap.Ns b m → s₂.heap.Ns b m := fun b m hb ⟨o, es, ep, ho, r⟩ => ⟨o, es, ep, kept b o hb ho, r⟩
  refine ⟨at_ _ _ gP (I.mod.glob.keeps I.bk), mb, at_ _ _ (fun z => ?_) (b1.keeps I.bk), b2⟩
  obtain ⟨o, es, ep, ho, hd, _⟩ := b1.keeps I.bk
  rw [z, I.hok P _ hP] at ho
  rw [← Option.some.inj ho] at hd
  cases hd
end
end GP

namespace TK
open PySem PySem.Spec PyProof.Rows L2 GP
def topS (i : Nat) : Stmt := PySem.Challenge.pw_tinrecall_k15_places_of_many_marks.main.body.getD i (.Pass ⟨0, 0, 0, 0⟩)

/-- the draws' state: its dict at d, its cells at c -/
structure StAt (H : Hp) (d c : Addr) (t : Int) : Prop where
  dict : H d = some (.dK [(.inr "cells", .ref c), (.inr "turn", .int t)])
  cells : ∃ cs : List Int, H c = some (.lst (cs.map V.int)) ∧ cs ≠ [] ∧ cs.length ≤ 63
  pos : 0 ≤ t
theorem StAt.ne {H : Hp} {d c : Addr} {t : Int} (h : StAt H d c t) : d ≠ c := by
  obtain ⟨cs, hc, _⟩ := h.cells
  exact ne_of h.dict hc (by intro z; cases z)
/-- all but the state is as it was -/
def Kp (d c : Addr) (H H' : Hp) : Prop := ∀ b o, b ≠ d → b ≠ c → H b = some o → H' b = some o
theorem Kp.refl (d c : Addr) (H : Hp) : Kp d c H H := fun _ _ _ _ h => h
theorem Kp.trans {d c : Addr} {H H1 H2 : Hp} (a : Kp d c H H1) (b : Kp d c H1 H2) : Kp d c H H2 := fun x o h1 h2 h => b x o h1 h2 (a x o h1 h2 h)

theorem ixN_of {n j : Nat} (h : j < n) : ixN n (j : Int) = some j := by
  unfold ixN
  rw [if_pos (Int.natCast_nonneg j), if_pos (by omega), Int.toNat_natCast]
def spTake : Sp := fun vs H Q _ => ∃ (d c : Addr) (t m : Int), vs = [.ref d, .int m] ∧ StAt H d c t ∧ t < 2 ^ 60 ∧ 0 < m ∧ m.natAbs < 2 ^ 250 ∧
  ∀ r H', 0 ≤ r → r < m → StAt H' d c (t + 1) → Kp d c H H' → Q (.int r) H'

abbrev sTake : Stmt := topS 8
theorem scTake : FnScope ["_law_state", "_law_many", "_law_turn", "_law_place", "_law_cell", "_law_digit", "_law_mixed"] ["_law_state", "_law_many"] (defScope sTake) := ⟨rfl, rfl, rfl, by decide +kernel, rfl, by decide +kernel, by decide +kernel⟩
section
variable {K : PySem.W.Frag} {mg : Str → Option Value} {P : Program} {w : World} {base : Heap}
theorem ok_take {f : Addr} {fd : FuncData} {k : Nat} (F : Fun K "_law_take" "_law_take" sTake f fd) (ml : mg "len" = none) (md : mg "divmod" = none) : FnOk P w K mg base CX0 (k + 1) f fd ["_law_state", "_law_many"] spTake := by
  refine F.ok scTake (fun vs H Q E h => ?_) (fun cdv A outer s H vs Q E hr h => ?_)
  · obtain ⟨d, c, t, m, rfl, _⟩ := h
    rfl
  · obtain ⟨d, c, t, m, rfl, hS, ht, hm, hm2, q⟩ := h
    refine ⟨_, pss_cons (ps_set (i := 2) scTake.nd rfl (.inl rfl) (pe_op op_add (pe_dget (hu_of hr) (pv 0) pe_str (fun _ _ => rfl)) pe_int))
      (pss_cons (ps_dput (hu_of hr) (pv 0) pe_str (pv 2) rfl)
      (pss_cons (ps_set (i := 3) scTake.nd rfl (.inl rfl) (pe_op op_mod (pv 2) (pe_callB call_len_seq (by rfl) ml PySem.boot_len (pa_cons (pe_dget (hu_of hr) (pv 0) pe_str (fun _ _ => rfl)) pa_nil))))
      (pss_cons (ps_set (i := 4) scTake.nd rfl (.inl rfl) (pe_ix ix_list (pe_dget (hu_of hr) (pv 0) pe_str (fun _ _ => rfl)) (pv 3) (fun _ _ => rfl)))
      (pss_cons (ps_if (pt_cmpR op_ge (pv 4) (pe_op op_pow pe_int pe_int) (nomark _))
        (pss_cons (ps_asg (pe_callB call_divmodW (by rfl) md (by decide +kernel) (pa_cons (pv 4) (pa_cons (pv 1) pa_nil)))
            (pg_tup rfl (pgs_cons (pg_sub (pe_dget (hu_of hr) (pv 0) pe_str (fun _ _ => rfl)) (pv 3) set_list) (pgs_cons (pg_name (i := 5) scTake.nd rfl (.inl rfl)) pgs_nil))))
          (pss_one (ps_ret (pv 5)))) pss_nil)
      (pss_cons (ps_set (i := 6) scTake.nd rfl (.inl rfl) (pe_op op_mod (pe_op op_mul (pe_op op_add (pe_op op_add (pe_op op_mod (pv 4) pe_int) (pe_op op_mul (pe_op op_mul (pv 2) (pv 2)) pe_int)) pe_int) pe_int) pe_int))
      (pss_cons (ps_set (i := 6) scTake.nd rfl (.inl rfl) (pe_op op_mod (pe_op op_mul (pv 6) (pv 6)) pe_int))
      (pss_one (ps_ret (pe_op op_mod (pe_op op_fdiv (pe_op op_mod (pe_op op_mul (pe_op op_add (pv 6) (pe_op op_mul (pv 2) pe_int)) pe_int) pe_int) pe_int) (pv 1)))))))))), ?_⟩
    obtain ⟨hd, ⟨cs, hc, hne, hlen⟩, hpos⟩ := hS
    have ndc : d ≠ c := ne_of hd hc (by intro z; cases z)
    -- turn = state['turn'] + 1
    refine ⟨.ref d, rfl, d, .int t, rfl, DGet.k (k := Sum.inr "turn") hd, t, 1, rfl, rfl, ?_⟩
    -- state['turn'] = turn
    refine ⟨_, rfl, .ref d, rfl, d, _, rfl, DPut.k (k := Sum.inr "turn") hd (by show 2 < sizeLine; decide), ?_⟩
    have hput : putK [((.inr "cells" : Key), V.ref c), (.inr "turn", .int t)] (.inr "turn") (.int (t + 1)) = [(.inr "cells", .ref c), (.inr "turn", .int (t + 1))] := rfl
    rw [show (.int (t + 1) : V) = V.int (t + 1) from rfl] at *
    rw [hput]
    generalize hH1 : upd H d (.dK [((.inr "cells" : Key), V.ref c), (.inr "turn", .int (t + 1))]) = H1
    have hd1 : H1 d = some (.dK [(.inr "cells", .ref c), (.inr "turn", .int (t + 1))]) := by rw [← hH1]; exact upd_same
    have hc1 : H1 c = some (.lst (cs.map V.int)) := by rw [← hH1, upd_ne ndc.symm]; exact hc
    have k1 : Kp d c H H1 := fun b o h1 h2 e => by rw [← hH1, upd_ne h1]; exact e
    have hlp : 0 < cs.length := List.length_pos_iff.mpr hne
    -- place = turn % len(state['cells'])
    refine ⟨_, rfl, .ref d, rfl, d, .ref c, rfl, DGet.k (k := Sum.inr "cells") hd1, c, _, rfl, .inl (SqL.of hc1), _, _, rfl, rfl, (by show (0 : Int) < ((cs.map V.int).length : Int); rw [List.length_map]; omega), ?_⟩
    dsimp only
    rw [List.length_map]
    have hj0 : 0 ≤ (t + 1) % (cs.length : Int) := Int.emod_nonneg _ (by omega)
    have hj1 : (t + 1) % (cs.length : Int) < cs.length := Int.emod_lt_of_pos _ (by omega)
    obtain ⟨j, hj⟩ := Int.eq_ofNat_of_zero_le hj0
    have hjl : j < cs.length := by omega
    rw [hj]
    have gj : (cs.map V.int)[j]? = some (.int cs[j]) := by rw [List.getElem?_map, List.getElem?_eq_getElem hjl]; rfl
    -- cell = state['cells'][place]
    refine ⟨.ref d, rfl, d, .ref c, rfl, DGet.k (k := Sum.inr "cells") hd1, _, rfl, c, _, _, .int cs[j], rfl, rfl, SqL.of hc1, atI_nat gj, ?_⟩
    generalize cs[j] = x
    -- if cell >= 10 ** 18
    refine ⟨_, rfl, 10, 18, rfl, rfl, ⟨by decide, by decide, by decide⟩, _, _, rfl, rfl, _, rfl, ite2 (fun e => ?_) (fun e => ?_)⟩
    · have hdp : CDivP x m := ⟨hm, PyProof.noPylong_of_log2 (Nat.lt_trans (PySem.Flt.log2_lt_of (by decide) hm2) (by decide))⟩
      refine ⟨_, rfl, _, rfl, x, m, rfl, hdp, fun p hp => ?_⟩
      have npd : d ≠ p := ne_of_none hd1 hp
      have npc : c ≠ p := ne_of_none hc1 hp
      have hd2 : upd H1 p (.tup [.int (x / m), .int (x % m)]) d = some (.dK [(.inr "cells", .ref c), (.inr "turn", .int (t + 1))]) := by rw [upd_ne npd]; exact hd1
      have hc2 : upd H1 p (.tup [.int (x / m), .int (x % m)]) c = some (.lst (cs.map V.int)) := by rw [upd_ne npc]; exact hc1
      refine ⟨p, _, rfl, .inl (.inl upd_same), rfl, _, _, rfl, .ref d, rfl, d, .ref c, rfl, DGet.k (k := Sum.inr "cells") hd2, _, rfl, c, _, _, j, rfl, rfl, hc2, ixN_of (by rw [List.length_map]; exact hjl), _, _, rfl, rfl, ?_⟩
      refine ⟨_, rfl, ?_⟩
      refine q _ _ (Int.emod_nonneg _ (by omega)) (Int.emod_lt_of_pos _ hm) ⟨?_, ⟨cs.set j (x / m), ?_, ?_, ?_⟩, by omega⟩ ?_
      · rw [upd_ne ndc]; exact hd2
      · rw [upd_same, List.map_set]
      · intro z
        have z2 : (cs.set j (x / m)).length = 0 := by rw [z]; rfl
        rw [List.length_set] at z2
        omega
      · rw [List.length_set]; exact hlen
      · intro b o h1 h2 e
        rw [upd_ne h2, upd_ne (ne_of_none (k1 b o h1 h2 e) hp)]
        exact k1 b o h1 h2 e
    · have t1 : t + 1 < 2 ^ 61 := by omega
      -- mixed
      refine ⟨_, rfl, _, _, rfl, rfl, (show (0 : Int) < 2147483629 by decide), _, rfl, _, rfl, t + 1, t + 1, rfl, rfl, .inl ⟨by omega, by omega⟩, _, _, rfl, rfl, .inr ⟨by decide, by decide⟩, _, _, rfl, rfl, _, _, rfl, rfl, _, _, rfl, rfl, .inr ⟨by decide, by decide⟩, _, 2147483647, rfl, rfl, (show (0 : Int) < 2147483647 by decide), ?_⟩
      dsimp only
      generalize hy : ((x % 2147483629 + (t + 1) * (t + 1) * 7919 + 11) * 48271) = y
      have y0 : 0 ≤ y % 2147483647 := Int.emod_nonneg _ (by decide)
      have y1 : y % 2147483647 < 2147483647 := Int.emod_lt_of_pos _ (by decide)
      refine ⟨_, rfl, _, rfl, y % 2147483647, y % 2147483647, rfl, rfl, .inl ⟨by omega, by omega⟩, _, 2147483587, rfl, rfl, (show (0 : Int) < 2147483587 by decide), ?_⟩
      refine ⟨_, rfl, _, rfl, t + 1, 104729, rfl, rfl, .inr ⟨by decide, by decide⟩, _, _, rfl, rfl, _, _, rfl, rfl, .inr ⟨by decide, by decide⟩, _, 2147483629, rfl, rfl, (show (0 : Int) < 2147483629 by decide), _, 64, rfl, rfl, ⟨by decide, by decide⟩, _, rfl, _, m, rfl, rfl, hm, ?_⟩
      exact q _ _ (Int.emod_nonneg _ (by omega)) (Int.emod_lt_of_pos _ hm) ⟨hd1, ⟨cs, hc1, hne, hlen⟩, by omega⟩ k1
end

abbrev sBegin : Stmt := topS 7
theorem scBegin : FnScope ["_law_script", "_law_cells"] ["_law_script"] (defScope sBegin) := ⟨rfl, rfl, rfl, by decide +kernel, rfl, by decide +kernel, by decide +kernel⟩
theorem same_upd {H : Hp} {p : Addr} {o : HO} (h : H p = none) : Same H (upd H p o) := fun b x e => by
  rw [upd_ne (ne_of_none e h)]
  exact e
theorem cut_front (xs : List V) (m : Nat) : cutV xs none (some (m : Int)) = xs.take m := by
  unfold cutV
  rw [HT.sIx_none, HT.sIx_nat]
  show List.take (min m xs.length - 0) (xs.drop 0) = xs.take m
  rw [Nat.sub_zero, List.drop_zero]
  by_cases h : m ≤ xs.length
  · rw [Nat.min_eq_left h]
  · rw [Nat.min_eq_right (by omega), List.take_length, List.take_of_length_le (by omega)]
theorem dp_ints {K : PySem.W.Frag} {H : Hp} : ∀ ns : List Int, DpAll K H (ns.map V.int) (ns.map PyData.int)
  | [] => .nil
  | n :: r => .cons (.int n) (dp_ints r)
theorem lay_ints : ∀ ns : List Int, PyData.canLayAll0 (ns.map PyData.int) = true
  | [] => by simp only [List.map_nil, PyData.canLayAll0]
  | n :: r => by
    rw [List.map_cons, PyData.canLayAll0, lay_ints r]
    simp [PyData.canLay0]
theorem depth_ints : ∀ ns : List Int, PyData.depthAll (ns.map PyData.int) = 0
  | [] => by simp only [List.map_nil, PyData.depthAll]
  | n :: r => by
    rw [List.map_cons, PyData.depthAll, depth_ints r]
    simp [PyData.depth]
theorem shaped_ints (ns : List Int) : SeqAt.shaped (PyData.list (ns.map PyData.int)) = true := by
  unfold SeqAt.shaped
  rw [PyData.canLay0, lay_ints, PyData.depth, depth_ints]
  rfl
theorem eqv_nil (n : Int) (r : List Int) : PyData.eqv (PyData.list ((n :: r).map PyData.int)) (PyData.list []) = false := by
  simp [PyData.eqv, PyData.eqvAll]
theorem eqv_nil0 : PyData.eqv (PyData.list (([] : List Int).map PyData.int)) (PyData.list []) = true := by
  simp [PyData.eqv, PyData.eqvAll]
def spBegin (K : PySem.W.Frag) : Sp := fun vs H Q _ => ∃ (a : Addr) (ns : List Int), vs = [.ref a] ∧ SqL K H a (ns.map V.int) ∧ ns.length ≤ 63 ∧
  ∀ d c H', Same H H' → H d = none → H c = none → StAt H' d c 0 → Q (.ref d) H'
section
variable {K : PySem.W.Frag} {mg : Str → Option Value} {P : Program} {w : World} {base : Heap}
theorem ok_begin {f : Addr} {fd : FuncData} {k : Nat} (F : Fun K "_law_begin" "_law_begin" sBegin f fd) (ml : mg "list" = none) : FnOk P w K mg base CX0 (k + 1) f fd ["_law_script"] (spBegin K) := by
  refine F.ok scBegin (fun vs H Q E h => ?_) (fun cdv A outer s H vs Q E hr h => ?_)
  · obtain ⟨a, ns, rfl, _⟩ := h
    rfl
  · obtain ⟨a, ns, rfl, hS, hlen, q⟩ := h
    refine ⟨_, pss_cons (ps_set (i := 1) scBegin.nd rfl (.inl rfl) (pe_callTy call_list_of (by rfl) ml (by decide +kernel) (pa_cons (pe_slice sl_list (pv 0) po_none (po_some pe_int)) pa_nil)))
      (pss_cons (ps_if (pt_cmpR (op_eqD hr.units) (pv 1) (pe_lst pa_nil) (nomark _)) (pss_one (ps_set (i := 1) scBegin.nd rfl (.inl rfl) (pe_lst (pa_cons pe_int pa_nil)))) pss_nil)
      (pss_one (ps_ret (pe_disp (pps_cons pe_str (pv 1) (pps_cons pe_str pe_int pps_nil)) (by rfl) (by rfl) (fun z => by cases z) (by decide))))), ?_⟩
    -- the end: a dict of what stands at the cells' place
    have fin : ∀ (H1 : Hp) (c : Addr) (cs : List Int) (y : Option V), Same H H1 → H c = none → H1 c = some (.lst (cs.map V.int)) → cs ≠ [] → cs.length ≤ 63 →
        (tRet (tDisp [(tC (.str "cells"), tVar 1), (tC (.str "turn"), tC (.int 0))])) { nx := fun _ H' => Q .non H', rt := Q } [some (.ref a), some (.ref c)] H1 := by
      intro H1 c cs y s1 nc ec hne hl
      refine fun d nd => ⟨_, rfl, upd_same, [(.inr "cells", .ref c), (.inr "turn", .int 0)], rfl, (by show 2 ≤ 15; decide), ?_⟩
      have ndc : c ≠ d := ne_of_none ec nd
      refine q d c _ (fun b o e => ?_) (s1.free nd) nc ⟨?_, ⟨cs, ?_, hne, hl⟩, by decide⟩
      · have nb : b ≠ d := ne_of_none (s1 b o e) nd
        rw [upd_ne nb, upd_ne nb]
        exact s1 b o e
      · exact upd_same
      · rw [upd_ne ndc, upd_ne ndc]
        exact ec
    refine ⟨.ref a, rfl, 63, rfl, a, ns.map V.int, rfl, hS, fun p np => ?_⟩
    have s1 : Same H (upd H p (.lst (cutV (ns.map V.int) none (some 63)))) := same_upd np
    refine ⟨p, _, rfl, .inl (SqL.of upd_same), fun l nl => ?_⟩
    have s2 := s1.trans (same_upd (o := .lst (cutV (ns.map V.int) none (some 63))) nl)
    have ecut : cutV (ns.map V.int) none (some 63) = ns.map V.int := by
      have e := cut_front (ns.map V.int) 63
      have e2 : cutV (ns.map V.int) none (some 63) = (ns.map V.int).take 63 := e
      rw [e2, List.take_of_length_le (by rw [List.length_map]; exact hlen)]
    have el : upd (upd H p (.lst (cutV (ns.map V.int) none (some 63)))) l (.lst (cutV (ns.map V.int) none (some 63))) l = some (.lst (ns.map V.int)) := by
      rw [upd_same, ecut]
    revert s2 el
    generalize upd (upd H p (.lst (cutV (ns.map V.int) none (some 63)))) l (.lst (cutV (ns.map V.int) none (some 63))) = H2
    intro s2 el
    have nlH : H l = none := s1.free nl
    -- if cells == []
    refine ⟨.ref l, rfl, Nat.zero_le _, fun z nz => ?_⟩
    have s3 := s2.trans (same_upd (o := .lst []) nz)
    have nlz : l ≠ z := ne_of_none el nz
    have el3 : upd H2 z (.lst []) l = some (.lst (ns.map V.int)) := by rw [upd_ne nlz]; exact el
    refine ⟨.list (ns.map PyData.int), .list [], .lst (SqL.of el3) (dp_ints ns), .lst (SqL.of upd_same) .nil, shaped_ints ns, shaped_ints [], ?_⟩
    cases ns with
    | nil =>
      refine ⟨true, by rw [eqv_nil0], iteT ?_⟩
      refine ⟨(by show 1 ≤ sizeLine; decide), fun c nc => ?_⟩
      exact fin _ c [_] none (s3.trans (same_upd nc)) (s3.free nc) upd_same (by simp) (by decide)
    | cons n r =>
      refine ⟨false, by rw [eqv_nil], iteF ?_⟩
      exact fin _ l (n :: r) none s3 nlH el3 (by simp) hlen
end

/-- a def of the text that keeps a promise, as its callers see it -/
def Cal (P : Program) (w : World) (K : PySem.W.Frag) (mg : Str → Option Value) (base : Heap) (k : Nat) (x : Str) (ps : List Str) (sp : Sp) : Prop :=
  ∃ f fd, FnOk P w K mg base CX0 k f fd ps sp ∧ mg x = some (.ref f) ∧ PySem.W.keepIn K (.ref f) = true ∧ Binds K fd ps []
theorem pe_own {X : Cx} {k : Nat} {x : Str} {ps : List Str} {sp : Sp} {e : Expr} {es : List Expr} {t : TA} {p pos : Pos} (C : Cal X.prog X.w X.K X.mg X.base k x ps sp) (hr : Room k X.A) (hg : Gl X x) (ha : PA X (e :: es) t)
    (dbg : (x == ("__debug__" : Str)) = false := by decide) (one : starEach (e :: es) X.env = (false, eval e X.env) :: starEach es X.env := by rfl) (star : (backTo pos (starEach es X.env)).any (·.1) = false := by rfl) :
    PE X (.Call (.Name x p) (e :: es) [] pos) (tCall sp [] E0 t) := by
  obtain ⟨f, fd, F, hm, hk, hb⟩ := C
  exact pe_call F hr hg hm hk hb .nil pass0 ha dbg one star
theorem StAt.same {H H' : Hp} {d c : Addr} {t : Int} (h : StAt H d c t) (s : Same H H') : StAt H' d c t :=
  ⟨s _ _ h.dict, let ⟨cs, e, r⟩ := h.cells; ⟨cs, s _ _ e, r⟩, h.pos⟩
theorem Kp.same {H H' : Hp} (d c : Addr) (s : Same H H') : Kp d c H H' := fun b o _ _ e => s b o e
/-- what is made behind the state stays -/
theorem Kp.at {H H' : Hp} {d c a : Addr} {t : Int} {o : HO} (k : Kp d c H H') (S : StAt H d c t) (e : H a = some o) (h1 : ∀ kvs, o ≠ .dK kvs) (h2 : ∀ ns : List Int, o ≠ .lst (ns.map V.int)) : H' a = some o := by
  obtain ⟨cs, ec, _⟩ := S.cells
  refine k a o (fun z => ?_) (fun z => ?_) e
  · rw [z, S.dict] at e
    exact h1 _ (Option.some.inj e).symm
  · rw [z, ec] at e
    exact h2 _ (Option.some.inj e).symm
theorem StAt.upd {H : Hp} {d c l : Addr} {t : Int} {o : HO} (S : StAt H d c t) (h1 : l ≠ d) (h2 : l ≠ c) : StAt (L2.upd H l o) d c t := by
  refine ⟨by rw [upd_ne h1.symm]; exact S.dict, ?_, S.pos⟩
  obtain ⟨cs, ec, r⟩ := S.cells
  exact ⟨cs, by rw [upd_ne h2.symm]; exact ec, r⟩

theorem _root_.GP.Prs.same {H H' : Hp} {vs : List V} {ps : List (Int × Int)} (h : Prs H vs ps) (s : Same H H') : Prs H' vs ps :=
  ⟨h.1, fun i p e => let ⟨a, e1, e2⟩ := h.2 i p e; ⟨a, e1, s _ _ e2⟩⟩
theorem _root_.GP.Prs.kp {H H' : Hp} {d c : Addr} {t : Int} {vs : List V} {ps : List (Int × Int)} (h : Prs H vs ps) (S : StAt H d c t) (k : Kp d c H H') : Prs H' vs ps :=
  ⟨h.1, fun i p e => let ⟨a, e1, e2⟩ := h.2 i p e; ⟨a, e1, k.at S e2 (fun _ z => nomatch z) (fun _ z => nomatch z)⟩⟩
theorem _root_.GP.Prs.upd_lst {H : Hp} {l : Addr} {xs : List V} {o : HO} {vs : List V} {ps : List (Int × Int)} (h : Prs H vs ps) (hl : H l = some (.lst xs)) : Prs (upd H l o) vs ps :=
  ⟨h.1, fun i p e => let ⟨a, e1, e2⟩ := h.2 i p e; ⟨a, e1, by rw [upd_ne (ne_of e2 hl (fun z => nomatch z))]; exact e2⟩⟩
theorem _root_.GP.Prs.nil {H : Hp} : Prs H [] [] := ⟨rfl, fun i p e => by simp at e⟩
theorem _root_.GP.Prs.snoc {H : Hp} {a : Addr} {x y : Int} {vs : List V} {ps : List (Int × Int)} (h : Prs H vs ps) (e : H a = some (.tup [.int x, .int y])) : Prs H (vs ++ [.ref a]) (ps ++ [(x, y)]) := by
  refine ⟨by simp [h.1], fun i p ep => ?_⟩
  by_cases hi : i < ps.length
  · rw [List.getElem?_append_left hi] at ep
    obtain ⟨b, e1, e2⟩ := h.2 i p ep
    exact ⟨b, by rw [List.getElem?_append_left (by rw [h.1]; exact hi)]; exact e1, e2⟩
  · rw [List.getElem?_append_right (by omega)] at ep
    have hz : i - ps.length = 0 := by
      cases hq : i - ps.length with
      | zero => rfl
      | succ n => rw [hq] at ep; simp at ep
    rw [hz] at ep
    have ep' : (x, y) = p := by simpa using ep
    subst ep'
    refine ⟨a, ?_, e⟩
    rw [List.getElem?_append_right (by rw [h.1]; omega), h.1, hz]
    rfl
/-- rising stretches with gaps, from lo on -/
def Ris : Int → List (Int × Int) → Prop
  | _, [] => True
  | lo, p :: r => lo ≤ p.1 ∧ p.1 ≤ p.2 ∧ Ris (p.2 + 2) r
theorem Ris.snoc : ∀ {lo : Int} {ps : List (Int × Int)} {a b : Int}, Ris lo ps → lo ≤ a → (∀ p ∈ ps, p.2 + 2 ≤ a) → a ≤ b → Ris lo (ps ++ [(a, b)])
  | lo, [], a, b, _, h1, _, h3 => ⟨h1, h3, True.intro⟩
  | lo, p :: r, a, b, h, h1, h2, h3 => ⟨h.1, h.2.1, Ris.snoc h.2.2 (h2 p (List.mem_cons_self ..)) (fun q hq => h2 q (List.mem_cons_of_mem _ hq)) h3⟩
theorem pick2 {x y r : Int} (Pv : Int → Prop) (h0 : 0 ≤ r) (h1 : r < 2) (hx : Pv x) (hy : Pv y) : ∃ v, Pv v ∧ atI [V.int x, V.int y] r = some (.int v) := by
  have : r = 0 ∨ r = 1 := by omega
  rcases this with rfl | rfl
  · exact ⟨x, hx, rfl⟩
  · exact ⟨y, hy, rfl⟩
theorem pick3 {x y z r : Int} (Pv : Int → Prop) (h0 : 0 ≤ r) (h1 : r < 3) (hx : Pv x) (hy : Pv y) (hz : Pv z) : ∃ v, Pv v ∧ atI [V.int x, V.int y, V.int z] r = some (.int v) := by
  have : r = 0 ∨ r = 1 ∨ r = 2 := by omega
  rcases this with rfl | rfl | rfl
  · exact ⟨x, hx, rfl⟩
  · exact ⟨y, hy, rfl⟩
  · exact ⟨z, hz, rfl⟩
/-- a new object stands through the state's change -/
theorem Kp.new {H H' : Hp} {d c l : Addr} {t : Int} {o : HO} (k : Kp d c (upd H l o) H') (S : StAt H d c t) (n : H l = none) : H' l = some o := by
  obtain ⟨cs, ec, _⟩ := S.cells
  exact k l o (ne_of_none S.dict n).symm (ne_of_none ec n).symm upd_same
theorem drop_at {α : Type} {l : List α} {i : Nat} {x : α} (h : l[i]? = some x) : l.drop i = x :: l.drop (i + 1) := by
  obtain ⟨lt, e⟩ := List.getElem?_eq_some_iff.mp h
  rw [← e]
  exact List.drop_eq_getElem_cons lt
theorem prs_at {H : Hp} {vs : List V} {ps : List (Int × Int)} {i : Nat} {x : V} (h : Prs H vs ps) (e : vs[i]? = some x) : ∃ (p : Int × Int) (a : Addr), ps[i]? = some p ∧ x = .ref a ∧ H a = some (.tup [.int p.1, .int p.2]) := by
  obtain ⟨hi, _⟩ := List.getElem?_eq_some_iff.mp e
  have hi2 : i < ps.length := by rw [← h.1]; exact hi
  obtain ⟨a, e1, e2⟩ := h.2 i ps[i] (List.getElem?_eq_getElem hi2)
  rw [e] at e1
  exact ⟨ps[i], a, List.getElem?_eq_getElem hi2, Option.some.inj e1, e2⟩

theorem sumP_append (g : Int → Int → Int) (ps qs : List (Int × Int)) : sumP g (ps ++ qs) = sumP g ps + sumP g qs := by
  unfold sumP
  rw [List.map_append, List.sum_append]
def inB (n a b : Int) : Bool := decide (a ≤ n) && decide (n ≤ b)
theorem Ris.le : ∀ {lo : Int} {ps : List (Int × Int)}, Ris lo ps → ∀ p ∈ ps, lo ≤ p.1 ∧ p.1 ≤ p.2
  | _, [], _, _, hp => nomatch hp
  | lo, q :: r, h, p, hp => by
    rcases List.mem_cons.mp hp with e | e'
    · rw [e]; exact ⟨h.1, h.2.1⟩
    · have := Ris.le h.2.2 p e'
      have := h.2.1
      have := h.1
      omega

/-! ### walks over a list or a tuple -/
def Sq (K : PySem.W.Frag) (H : Hp) (a : Addr) (xs : List V) : Prop := SqL K H a xs ∨ SqT K H a xs
def iSeq (K : PySem.W.Frag) (tl : TE) : TI := fun σ H R => tl σ H fun x H1 => ∃ a, x = .ref a ∧ (((∃ xs, SqL K H1 a xs) ∧ R (Itl K a) H1) ∨ ((∃ xs, SqT K H1 a xs) ∧ R (Itt K a) H1))
/-- the iterator that was just laid is no one's -/
theorem lone {X : Cx} {pins : List (Addr × Obj)} {σ : L2.St} {H : Hp} {s : Shared} (I : Inv X pins σ H s) : ∀ b ∈ [s.heap.objs.size], FpOk X pins H b := fun b hb => by
  rw [List.mem_singleton.mp hb]
  exact I.fpOk (H' := H) (Nat.le_refl _) (I.hok.fresh (Nat.le_refl _))
theorem pi_seq {X : Cx} {tg l : Expr} {tl : TE} (walked : PE X l tl) : PI X tg l (iSeq X.K tl) := by
  constructor
  intro pins s σ H R I h
  refine thn (walked.run pins s σ H _ I h) fun u s1 had => ?_
  obtain ⟨_, H1, J, rel, a, rfl, had⟩ := had
  cases rel
  have laid : ∀ o, Inv X pins σ H1 { s1 with heap := s1.heap.push o } := fun o => J.kept (t' := s1.toks) fun _ _ e => Heap.get?_push_of_some _ e
  rcases had with ⟨⟨xs, hq⟩, q⟩ | ⟨⟨xs, hq⟩, q⟩
  · obtain ⟨its, _, isL, _⟩ := J.list hq
    exact wpAny_pyIter_list isL.isList ⟨_, _, _, _, H1, rfl, laid _, turn_list a _, ⟨_, Heap.get?_push_size _ rfl, rfl, rfl⟩, lone J, q⟩
  · obtain ⟨its, _, isT, _⟩ := J.tuple hq
    exact wpAny_pyIter_tuple (items := its.toArray) isT ⟨_, _, _, _, H1, rfl, laid _, turn_tuple a _, ⟨_, Heap.get?_push_size _ rfl, rfl, rfl⟩, lone J, q⟩
/-- the walked thing stands as it stood -/
def SqTo (K : PySem.W.Frag) (H H' : Hp) (a : Addr) (xs : List V) : Prop := (SqL K H a xs → SqL K H' a xs) ∧ (SqT K H a xs → SqT K H' a xs)
theorem SqTo.refl {K : PySem.W.Frag} {H : Hp} {a : Addr} {xs : List V} : SqTo K H H a xs := ⟨fun h => h, fun h => h⟩
theorem same_t {K : PySem.W.Frag} {H H' : Hp} {a : Addr} {xs : List V} (s : Same H H') (h : SqT K H a xs) : SqT K H' a xs :=
  h.elim (fun r => .inl (r.elim (fun e => .inl (s a _ e)) fun ⟨o, e⟩ => .inr ⟨o, s a _ e⟩)) .inr
theorem SqTo.same {K : PySem.W.Frag} {H H' : Hp} {a : Addr} {xs : List V} (s : Same H H') : SqTo K H H' a xs := ⟨s.seq, same_t s⟩
theorem Sq.same {K : PySem.W.Frag} {H H' : Hp} {a : Addr} {xs : List V} (h : Sq K H a xs) (s : Same H H') : Sq K H' a xs := h.elim (fun h => .inl (s.seq h)) fun h => .inr (same_t s h)
theorem Sq.list {K : PySem.W.Frag} {H : Hp} {a : Addr} {xs : List V} (h : H a = some (.lst xs)) : Sq K H a xs := .inl (SqL.of h)
theorem Sq.tup {K : PySem.W.Frag} {H : Hp} {a : Addr} {xs : List V} (h : H a = some (.tup xs)) : Sq K H a xs := .inr (.inl (.inl h))
abbrev ForR (J : It) (g : TG) (tb : TS) (D : Ends) (σ : L2.St) (H1 : Hp) : Prop := ∃ W : Nat → Nat → L2.St → Hp → Prop, (∃ m, W 0 m σ H1) ∧ ∀ i m σ H, W i m σ H →
  (J.stop i H ∧ D.nx σ H) ∨ (J.go i H ∧ ∃ N : L2.St → Hp → Prop, (∀ σ' H', N σ' H' → ∃ m', m' < m ∧ W (i + 1) m' σ' H') ∧ ∀ x H', J.yld i H x H' → g x σ H' fun σ2 H2 => tb { D with nx := N, ct := N, bk := D.nx } σ2 H2)
theorem for_seq {K : PySem.W.Frag} {a : Addr} {xs : List V} {g : TG} {tb : TS} {D : Ends} {σ : L2.St} {H1 : Hp} (hq : Sq K H1 a xs) (Pv : Nat → L2.St → Hp → Prop) (h0 : Pv 0 σ H1)
    (hl : ∀ i σ H', i ≤ xs.length → Pv i σ H' → SqTo K H1 H' a xs)
    (turn : ∀ i x σ H, xs[i]? = some x → Pv i σ H → g x σ H fun σ2 H2 => tb { D with nx := Pv (i + 1), ct := Pv (i + 1), bk := D.nx } σ2 H2) (fin : ∀ σ H, Pv xs.length σ H → D.nx σ H) :
    ((∃ xs, SqL K H1 a xs) ∧ ForR (Itl K a) g tb D σ H1) ∨ ((∃ xs, SqT K H1 a xs) ∧ ForR (Itt K a) g tb D σ H1) := by
  rcases hq with h | h
  · exact .inl ⟨⟨xs, h⟩, for_list (xs := xs) Pv h0 (fun i σ H' hi p => (hl i σ H' hi p).1 h) turn fin⟩
  · exact .inr ⟨⟨xs, h⟩, for_tup (xs := xs) Pv h0 (fun i σ H' hi p => (hl i σ H' hi p).2 h) turn fin⟩

/-! ### pairs as data -/
def pairD (p : Int × Int) : PyData := .tuple [.int p.1, .int p.2]
theorem dp_prs {K : PySem.W.Frag} {H : Hp} : ∀ {us : List V} {ps : List (Int × Int)}, Prs H us ps → DpAll K H us (ps.map pairD)
  | [], [], _ => .nil
  | [], _ :: _, h => nomatch h.1
  | _ :: _, [], h => nomatch h.1
  | u :: us, p :: ps, h => by
    obtain ⟨a, e1, e2⟩ := h.2 0 p rfl
    have eu : u = .ref a := Option.some.inj e1
    subst eu
    refine .cons (.tup (.inl (.inl e2)) (.cons (.int _) (.cons (.int _) .nil))) (dp_prs ⟨Nat.succ.inj h.1, fun i q e => ?_⟩)
    obtain ⟨b, f1, f2⟩ := h.2 (i + 1) q e
    exact ⟨b, f1, f2⟩
theorem lay_prs : ∀ ps : List (Int × Int), PyData.canLayAll0 (ps.map pairD) = true
  | [] => by simp only [List.map_nil, PyData.canLayAll0]
  | p :: r => by
    rw [List.map_cons, PyData.canLayAll0, lay_prs r]
    simp [pairD, PyData.canLay0, PyData.canLayAll0]
theorem depth_prs : ∀ ps : List (Int × Int), PyData.depthAll (ps.map pairD) ≤ 1
  | [] => by simp only [List.map_nil, PyData.depthAll]; omega
  | p :: r => by
    rw [List.map_cons, PyData.depthAll]  -- a pair, then the rest
    have := depth_prs r
    simp [pairD, PyData.depth, PyData.depthAll]
    omega
theorem shaped_prs (ps : List (Int × Int)) : SeqAt.shaped (PyData.list (ps.map pairD)) = true := by
  unfold SeqAt.shaped
  rw [PyData.canLay0, lay_prs, PyData.depth, Bool.true_and]
  exact decide_eq_true (by have := depth_prs ps; omega)
theorem eqv_prs (ps : List (Int × Int)) : PyData.eqv (PyData.list (ps.map pairD)) (PyData.list (ps.map pairD)) = true := SeqAt.eqv_refl _ (by rw [PyData.canLay0]; exact lay_prs ps)
theorem tabG_tabbed {Pt Pu : Addr} {H H2 : Hp} (g : GxR.TabG H Pu) (x : GxR.Tabbed Pt H H2) : GxR.TabG H2 Pu := by
  by_cases e : Pu = Pt
  · rw [e]; exact x.1
  · obtain ⟨ps, h, r⟩ := g
    exact ⟨ps, by rw [x.2 _ e]; exact h, r⟩

theorem Kp.free {H H' : Hp} {d c l : Addr} {t' : Int} (k : Kp d c H H') (S' : StAt H' d c t') (n : H' l = none) : H l = none := by
  cases e : H l with
  | none => rfl
  | some o =>
    obtain ⟨cs1, ec1, _⟩ := S'.cells
    have z := k l o (ne_of_none S'.dict n).symm (ne_of_none ec1 n).symm e
    rw [n] at z
    cases z
theorem StAt.off {H : Hp} {d c l : Addr} {t : Int} (S : StAt H d c t) (n : H l = none) : l ≠ d ∧ l ≠ c := by
  obtain ⟨cs1, ec1, _⟩ := S.cells
  exact ⟨(ne_of_none S.dict n).symm, (ne_of_none ec1 n).symm⟩
/-- no whole number among these: so it's not the draws' cells -/
def NoInt (xs : List V) : Prop := ∀ x ∈ xs, ∀ i, x ≠ .int i
theorem Kp.lst {H H' : Hp} {d c a : Addr} {t : Int} {xs : List V} (k : Kp d c H H') (S : StAt H d c t) (e : H a = some (.lst xs)) (h : NoInt xs) : H' a = some (.lst xs) := by
  obtain ⟨cs, ec, hne, _⟩ := S.cells
  refine k a _ (fun z => ?_) (fun z => ?_) e
  · rw [z, S.dict] at e
    cases e
  · rw [z, ec] at e
    have e' : cs.map V.int = xs := HO.lst.inj (Option.some.inj e)
    cases cs with
    | nil => exact hne rfl
    | cons n r => exact h (.int n) (e' ▸ List.mem_cons_self ..) n rfl
theorem Kp.tup {H H' : Hp} {d c a : Addr} {t : Int} {xs : List V} (k : Kp d c H H') (S : StAt H d c t) (e : H a = some (.tup xs)) : H' a = some (.tup xs) := k.at S e (fun _ z => nomatch z) (fun _ z => nomatch z)
theorem noInt_strs (xs : List Str) : NoInt (xs.map V.str) := fun x hx i e => by
  obtain ⟨y, _, rfl⟩ := List.mem_map.mp hx
  cases e
theorem noInt_prs {H : Hp} {us : List V} {ps : List (Int × Int)} (h : Prs H us ps) : NoInt us := fun x hx i e => by
  obtain ⟨j, hj, e1⟩ := List.getElem_of_mem hx
  obtain ⟨p, a, _, rfl, _⟩ := prs_at h (by rw [List.getElem?_eq_getElem hj, e1])
  cases e

/-- a text of one sign -/
def sgS (c : Nat) : Str := ⟨#[c]⟩
def sgn (c : Nat) : V := .str (sgS c)
def spNames : Sp := fun vs H Q _ => ∃ (d c : Addr) (t m : Int), vs = [.ref d, .int m] ∧ StAt H d c t ∧ t + 100 < 2 ^ 60 ∧ 0 ≤ m ∧ m ≤ 20 ∧
  ∀ (l : Addr) (xs : List Str) (t' : Int) H', H l = none → H' l = some (.lst (xs.map V.str)) → (∀ x ∈ xs, PyData.strOk x = true) → (xs.length : Int) = m → xs.Nodup → t ≤ t' → t' ≤ t + 20 → StAt H' d c t' → Kp d c H H' → Q (.ref l) H'
theorem join_small {cs : List Nat} (h : cs.length ≤ 10) : ((cs.map sgS).map (·.length)).sum + (cs.map sgS).length * ("" : Str).length ≤ 16777216 := by
  have e : ((cs.map sgS).map (·.length)).sum = cs.length := by
    induction cs with
    | nil => rfl
    | cons c r ih =>
      rw [List.map_cons, List.map_cons, List.sum_cons, ih (by rw [List.length_cons] at h; omega), List.length_cons]
      show 1 + r.length = r.length + 1
      omega
  rw [e, show ("" : Str).length = 0 from rfl, Nat.mul_zero]
  omega
theorem joinL_ones : ∀ cs : List Nat, TL.joinL [] (cs.map fun c => [c]) = cs
  | [] => rfl
  | [_] => rfl
  | c :: c2 :: r => by
    have ih := joinL_ones (c2 :: r)
    show [c] ++ ([] ++ TL.joinL [] ((c2 :: r).map fun c => [c])) = _
    rw [ih]
    rfl
theorem join_ok {cs : List Nat} (h : ∀ c ∈ cs, c < 1114112) : PyData.strOk (Txt.join "" (cs.map sgS)) = true := by
  have e : Txt.join "" (cs.map sgS) = SX.S cs := by
    have z := SX.join_S [] (cs.map fun c => [c])
    rw [joinL_ones, List.map_map] at z
    exact z
  rw [e]
  show (Array.all _ _) = true
  rw [Array.all_eq_true']
  intro c hc
  exact decide_eq_true (h c (by simpa using hc))
/-- words that are unlike at one sign -/
def Spelt (abc : Str) (N fi sv : Int) (js : Nat) (xs : List Str) : Prop := ∀ (k : Nat) x, xs[k]? = some x → ∃ (cs : List Nat) (ch : Nat), x = SX.S cs ∧ cs[js]? = some ch ∧ atI abc.cps.toList ((fi + sv * (k : Int)) % N) = some ch
theorem join_eq (cs : List Nat) : Txt.join "" (cs.map sgS) = SX.S cs := by
  have z := SX.join_S [] (cs.map fun c => [c])
  rw [joinL_ones, List.map_map] at z
  exact z
theorem Spelt.snoc {abc : Str} {N fi sv : Int} {js i : Nat} {xs : List Str} {cs : List Nat} {ch : Nat} (h : Spelt abc N fi sv js xs) (hl : xs.length = i) (e1 : cs[js]? = some ch) (e2 : atI abc.cps.toList ((fi + sv * (i : Int)) % N) = some ch) : Spelt abc N fi sv js (xs ++ [Txt.join "" (cs.map sgS)]) := fun k x e => by
  by_cases hk : k < xs.length
  · rw [List.getElem?_append_left hk] at e
    exact h k x e
  · rw [List.getElem?_append_right (by omega)] at e
    have hz : k - xs.length = 0 := by
      cases hq : k - xs.length with
      | zero => rfl
      | succ n => rw [hq] at e; cases e
    rw [hz] at e
    cases e
    have hki : k = i := by omega
    subst hki
    exact ⟨cs, ch, join_eq cs, e1, e2⟩
theorem Spelt.nodup {abc : Str} {N fi sv : Int} {js : Nat} {xs : List Str} (h : Spelt abc N fi sv js xs) (hN : 0 < N) (hl : (abc.cps.toList.length : Int) = N) (hn : abc.cps.toList.Nodup) (far : ∀ k k' : Nat, k < xs.length → k' < xs.length → (fi + sv * (k : Int)) % N = (fi + sv * (k' : Int)) % N → k = k') : xs.Nodup := by
  refine List.pairwise_iff_getElem.mpr fun i j hi hj hij ex => ?_
  obtain ⟨cs1, c1, e1, f1, g1⟩ := h i xs[i] (List.getElem?_eq_getElem hi)
  obtain ⟨cs2, c2, e2, f2, g2⟩ := h j xs[j] (List.getElem?_eq_getElem hj)
  rw [e1, e2] at ex
  have ec : cs1 = cs2 := SX.S_inj ex
  rw [ec, f2] at f1
  have ecc : c2 = c1 := Option.some.inj f1
  rw [← ecc] at g1
  obtain ⟨a, ha⟩ := Int.eq_ofNat_of_zero_le (Int.emod_nonneg (fi + sv * (i : Int)) (show N ≠ 0 by omega))
  obtain ⟨b, hb⟩ := Int.eq_ofNat_of_zero_le (Int.emod_nonneg (fi + sv * (j : Int)) (show N ≠ 0 by omega))
  have la := Int.emod_lt_of_pos (fi + sv * (i : Int)) hN
  have lb := Int.emod_lt_of_pos (fi + sv * (j : Int)) hN
  rw [ha] at g1 la
  rw [hb] at g2 lb
  have a1 : a < abc.cps.toList.length := by omega
  have b1 : b < abc.cps.toList.length := by omega
  have g1' : abc.cps.toList[a]? = some c2 := by
    have z := atI_nat (List.getElem?_eq_getElem a1)
    rw [z] at g1
    rw [List.getElem?_eq_getElem a1]
    exact g1
  have g2' : abc.cps.toList[b]? = some c2 := by
    have z := atI_nat (List.getElem?_eq_getElem b1)
    rw [z] at g2
    rw [List.getElem?_eq_getElem b1]
    exact g2
  have eab : a = b := (List.getElem?_inj a1 hn).mp (g1'.trans g2'.symm)
  have := far i j (by omega) hj (by rw [ha, hb, eab])
  omega
/-! ### _law_names -/

theorem snoc_cases {α : Type} (l : List α) : l = [] ∨ ∃ l' x, l = l' ++ [x] := by
  rcases List.eq_nil_or_concat l with h | ⟨l', x, h⟩
  · exact .inl h
  · exact .inr ⟨l', x, by rw [h]; simp⟩
theorem _root_.GP.Prs.last {H : Hp} {us : List V} {ps : List (Int × Int)} {p : Int × Int} (h : Prs H us (ps ++ [p])) : ∃ us' T, us = us' ++ [.ref T] ∧ H T = some (.tup [.int p.1, .int p.2]) ∧ Prs H us' ps := by
  have hl := h.1
  rw [List.length_append] at hl
  rcases snoc_cases us with e | ⟨us', x, e⟩
  · rw [e] at hl
    simp at hl
  · subst e
    rw [List.length_append] at hl
    have hl' : us'.length = ps.length := Nat.add_right_cancel hl
    obtain ⟨T, e1, e2⟩ := h.2 ps.length p (by rw [List.getElem?_append_right (Nat.le_refl _), Nat.sub_self]; rfl)
    rw [List.getElem?_append_right (by omega), hl', Nat.sub_self] at e1
    refine ⟨us', T, by rw [Option.some.inj e1], e2, hl', fun i q eq => ?_⟩
    have hi : i < ps.length := (List.getElem?_eq_some_iff.mp eq).1
    obtain ⟨b, f1, f2⟩ := h.2 i q (by rw [List.getElem?_append_left hi]; exact eq)
    rw [List.getElem?_append_left (by omega)] at f1
    exact ⟨b, f1, f2⟩
theorem eqv_pr_nil (ps : List (Int × Int)) : PyData.eqv (PyData.list (ps.map pairD)) (PyData.list []) = ps.isEmpty := by
  cases ps with
  | nil => simp [PyData.eqv, PyData.eqvAll]
  | cons p r => simp [PyData.eqv, PyData.eqvAll]
def rIxS (K : PySem.W.Frag) : R2 := fun x y H Q => ∃ p xs i v, x = .ref p ∧ y = .int i ∧ Sq K H p xs ∧ atI xs i = some v ∧ Q v H
theorem ix_seq {X : Cx} : IxR X (rIxS X.K) := by
  intro value slice pins s σ H x y v u Q I rx ry h hs
  obtain ⟨p, xs, i, z, e1, e2, hq, he, q⟩ := h
  rcases hq with hq | hq
  · exact ix_list value slice pins s σ H x y v u Q I rx ry ⟨p, xs, i, z, e1, e2, hq, he, q⟩ hs
  · exact ix_tup value slice pins s σ H x y v u Q I rx ry ⟨p, xs, i, z, e1, e2, hq, he, q⟩ hs

/-! ### the table of the def that holds the generator expression -/
theorem tab_at {Pt : Addr} {H H2 : Hp} {b : Addr} {o : HO} (g : GxR.TabG H Pt) (t : GxR.Tabbed Pt H H2) (e : H b = some o) (h : ∀ q, o ≠ .tbl q) : H2 b = some o := by
  obtain ⟨ps, hP, _⟩ := g
  rw [t.2 b (ne_of e hP (h ps))]
  exact e
theorem StAt.tab {Pt : Addr} {H H2 : Hp} {d c : Addr} {t : Int} (S : StAt H d c t) (g : GxR.TabG H Pt) (x : GxR.Tabbed Pt H H2) : StAt H2 d c t :=
  ⟨tab_at g x S.dict (fun _ z => nomatch z), let ⟨cs, e, r⟩ := S.cells; ⟨cs, tab_at g x e (fun _ z => nomatch z), r⟩, S.pos⟩
theorem _root_.GP.Prs.tab {Pt : Addr} {H H2 : Hp} {vs : List V} {ps : List (Int × Int)} (h : Prs H vs ps) (g : GxR.TabG H Pt) (x : GxR.Tabbed Pt H H2) : Prs H2 vs ps :=
  ⟨h.1, fun i p e => let ⟨a, e1, e2⟩ := h.2 i p e; ⟨a, e1, tab_at g x e2 (fun _ z => nomatch z)⟩⟩
theorem tabG_same {Pt : Addr} {H H' : Hp} (g : GxR.TabG H Pt) (s : Same H H') : GxR.TabG H' Pt := let ⟨ps, e, r⟩ := g; ⟨ps, s _ _ e, r⟩
theorem tabG_kp {Pt : Addr} {H H' : Hp} {d c : Addr} {t : Int} (g : GxR.TabG H Pt) (S : StAt H d c t) (k : Kp d c H H') : GxR.TabG H' Pt := let ⟨ps, e, r⟩ := g; ⟨ps, k.at S e (fun _ z => nomatch z) (fun _ z => nomatch z), r⟩
theorem tabG_upd {Pt : Addr} {H : Hp} {l : Addr} {o u : HO} (g : GxR.TabG H Pt) (e : H l = some o) (h : ∀ q, o ≠ .tbl q) : GxR.TabG (upd H l u) Pt := let ⟨ps, eP, r⟩ := g; ⟨ps, by rw [upd_ne (ne_of e eP (h ps)).symm]; exact eP, r⟩
theorem tabbed_free {Pt : Addr} {H H2 : Hp} {p : Addr} (g : GxR.TabG H Pt) (x : GxR.Tabbed Pt H H2) (h : H2 p = none) : H p = none := by
  obtain ⟨ps, e, _⟩ := x.1
  rw [← x.2 p (fun z => by rw [z, e] at h; cases h)]
  exact h

/-- a walk over what stood before a list was begun -/
theorem for_seqS {K : PySem.W.Frag} {a : Addr} {xs : List V} {g : TG} {tb : TS} {D : Ends} {σ : L2.St} {H0 H1 : Hp} (hq : Sq K H0 a xs) (s1 : Same H0 H1) (Pv : Nat → L2.St → Hp → Prop) (h0 : Pv 0 σ H1)
    (hl : ∀ i σ H', Pv i σ H' → Same H0 H')
    (turn : ∀ i x σ H, xs[i]? = some x → Pv i σ H → g x σ H fun σ2 H2 => tb { D with nx := Pv (i + 1), ct := Pv (i + 1), bk := D.nx } σ2 H2) (fin : ∀ σ H, Pv xs.length σ H → D.nx σ H) :
    ((∃ xs, SqL K H1 a xs) ∧ ForR (Itl K a) g tb D σ H1) ∨ ((∃ xs, SqT K H1 a xs) ∧ ForR (Itt K a) g tb D σ H1) := by
  rcases hq with h | h
  · exact .inl ⟨⟨xs, s1.seq h⟩, for_list (xs := xs) Pv h0 (fun i σ H' _ p => (hl i σ H' p).seq h) turn fin⟩
  · exact .inr ⟨⟨xs, same_t s1 h⟩, for_tup (xs := xs) Pv h0 (fun i σ H' _ p => same_t (hl i σ H' p) h) turn fin⟩

abbrev LcR (J : It) (g : TG) (tt : TT) (te : TE) (vs : List Nat) (σ : L2.St) (D : Addr) (Qd : Addr → Hp → Prop) (H1 : Hp) : Prop := ∃ W : Nat → Nat → Hp → Prop, (∃ m, W 0 m (upd H1 D (.lst []))) ∧ ∀ i m H, W i m H →
  (J.stop i H ∧ Qd D H) ∨ (J.go i H ∧ ∃ Nx : Hp → Prop, (∀ H', Nx H' → ∃ m', m' < m ∧ W (i + 1) m' H') ∧ ∀ x H', J.yld i H x H' → g x (wipe σ vs) H' fun σ2 H2 => wipe σ2 vs = wipe σ vs ∧ tt σ2 H2 fun b H3 => if b = true then
    te σ2 H3 fun y H4 => ∃ acc, H4 D = some (.lst acc) ∧ acc.length < sizeLine ∧ Nx (upd H4 D (.lst (acc ++ [y]))) else Nx H3)
theorem lc_seq {K : PySem.W.Frag} {a : Addr} {xs : List V} {g : TG} {tt : TT} {te : TE} {vs : List Nat} {σ : L2.St} {H1 : Hp} {Qd : Addr → Hp → Prop} (hq : Sq K H1 a xs) (Pv : Addr → Nat → Hp → Prop) (h0 : ∀ D, H1 D = none → Pv D 0 (upd H1 D (.lst [])))
    (still : ∀ D i H', H1 D = none → Pv D i H' → SqTo K H1 H' a xs)
    (turn : ∀ D i x H', H1 D = none → xs[i]? = some x → Pv D i H' → g x (wipe σ vs) H' fun σ2 H2 => wipe σ2 vs = wipe σ vs ∧ tt σ2 H2 fun b H3 =>
      if b = true then te σ2 H3 fun y H4 => ∃ acc, H4 D = some (.lst acc) ∧ acc.length < sizeLine ∧ Pv D (i + 1) (upd H4 D (.lst (acc ++ [y]))) else Pv D (i + 1) H3) (fin : ∀ D H', H1 D = none → Pv D xs.length H' → Qd D H') :
    ((∃ xs, SqL K H1 a xs) ∧ ∀ D, H1 D = none → LcR (Itl K a) g tt te vs σ D Qd H1) ∨ ((∃ xs, SqT K H1 a xs) ∧ ∀ D, H1 D = none → LcR (Itt K a) g tt te vs σ D Qd H1) := by
  rcases hq with h | h
  · exact .inl ⟨⟨xs, h⟩, fun D nD => lc_list (xs := xs) (Pv D) (h0 D nD) (fun i H' _ p => (still D i H' nD p).1 h) (fun i x H' e p => turn D i x H' nD e p) (fun H' p => fin D H' nD p)⟩
  · exact .inr ⟨⟨xs, h⟩, fun D nD => lc_tup (xs := xs) (Pv D) (h0 D nD) (fun i H' _ p => (still D i H' nD p).2 h) (fun i x H' e p => turn D i x H' nD e p) (fun H' p => fin D H' nD p)⟩

/-! ### what stands where: pairs in a list or a tuple -/
def PrA (K : PySem.W.Frag) (H : Hp) (a : Addr) (ps : List (Int × Int)) : Prop := ∃ us, Sq K H a us ∧ Prs H us ps
def LsA (H : Hp) (a : Addr) (ps : List (Int × Int)) : Prop := ∃ us, H a = some (.lst us) ∧ Prs H us ps
theorem LsA.pr {K : PySem.W.Frag} {H : Hp} {a : Addr} {ps : List (Int × Int)} (h : LsA H a ps) : PrA K H a ps := let ⟨us, e, p⟩ := h; ⟨us, Sq.list e, p⟩
theorem LsA.same {H H' : Hp} {a : Addr} {ps : List (Int × Int)} (h : LsA H a ps) (s : Same H H') : LsA H' a ps := let ⟨us, e, p⟩ := h; ⟨us, s _ _ e, p.same s⟩
theorem PrA.same {K : PySem.W.Frag} {H H' : Hp} {a : Addr} {ps : List (Int × Int)} (h : PrA K H a ps) (s : Same H H') : PrA K H' a ps := let ⟨us, e, p⟩ := h; ⟨us, e.same s, p.same s⟩
theorem LsA.nil {H : Hp} {a : Addr} (e : H a = some (.lst [])) : LsA H a [] := ⟨[], e, Prs.nil⟩
theorem LsA.dp {K : PySem.W.Frag} {H : Hp} {a : Addr} {ps : List (Int × Int)} (h : LsA H a ps) : Dp K H (.ref a) (.list (ps.map pairD)) := let ⟨_, e, p⟩ := h; .lst (SqL.of e) (dp_prs p)

/-! ### things as data, all of it tracked -/
inductive Dat (H : Hp) : V → PyData → Prop
  | non : Dat H .non .none
  | bl (b : Bool) : Dat H (.bl b) (.bool b)
  | int (i : Int) : Dat H (.int i) (.int i)
  | str (x : Str) : Dat H (.str x) (.str x)
  | lst {a : Addr} {xs : List V} {ds : List PyData} : H a = some (.lst xs) → xs.length = ds.length → (∀ (i : Nat) x d, xs[i]? = some x → ds[i]? = some d → Dat H x d) → Dat H (.ref a) (.list ds)
  | tup {a : Addr} {xs : List V} {ds : List PyData} : H a = some (.tup xs) → xs.length = ds.length → (∀ (i : Nat) x d, xs[i]? = some x → ds[i]? = some d → Dat H x d) → Dat H (.ref a) (.tuple ds)
theorem Dat.same {H H' : Hp} {v : V} {d : PyData} (h : Dat H v d) (s : Same H H') : Dat H' v d := by
  induction h with
  | non => exact .non
  | bl b => exact .bl b
  | int i => exact .int i
  | str x => exact .str x
  | lst e l _ ih => exact .lst (s _ _ e) l ih
  | tup e l _ ih => exact .tup (s _ _ e) l ih
/-- at most so deep, no longer than these lines -/
def Sm : Nat → PyData → Prop
  | _, .none => True
  | _, .bool _ => True
  | _, .int _ => True
  | _, .str _ => True
  | n + 1, .list ds => ds.length ≤ 900 ∧ ∀ d ∈ ds, Sm n d
  | n + 1, .tuple ds => ds.length ≤ 900 ∧ ∀ d ∈ ds, Sm n d
  | _, _ => False
/-- no list, no tuple -/
def Flat (d : PyData) : Prop := d = .none ∨ (∃ b, d = .bool b) ∨ (∃ i, d = .int i) ∨ ∃ x, d = .str x
theorem Sm.cases {n : Nat} {d : PyData} (h : Sm (n + 1) d) : Flat d ∨ (∃ ds, d = .list ds ∧ ds.length ≤ 900 ∧ ∀ d ∈ ds, Sm n d) ∨ ∃ ds, d = .tuple ds ∧ ds.length ≤ 900 ∧ ∀ d ∈ ds, Sm n d := by
  cases d <;> first | exact .inl (.inl rfl) | exact .inl (.inr (.inl ⟨_, rfl⟩)) | exact .inl (.inr (.inr (.inl ⟨_, rfl⟩))) | exact .inl (.inr (.inr (.inr ⟨_, rfl⟩))) | exact .inr (.inl ⟨_, rfl, h.1, h.2⟩) | exact .inr (.inr ⟨_, rfl, h.1, h.2⟩) | exact h.elim
theorem Sm.flat {d : PyData} (h : Sm 0 d) : Flat d := by
  cases d <;> first | exact .inl rfl | exact .inr (.inl ⟨_, rfl⟩) | exact .inr (.inr (.inl ⟨_, rfl⟩)) | exact .inr (.inr (.inr ⟨_, rfl⟩)) | exact h.elim
theorem walk_zipTs {K : PySem.W.Frag} {a b : Addr} {xs ys : List V} {n : Nat} (h1 : xs.length = n) (h2 : ys.length = n) : Walk (RZ.ItzT K a b) n (fun H => SqT K H a xs ∧ SqT K H b ys) (YPair (fun i => xs[i]?) (fun i => ys[i]?)) where
  goes := fun i _ lt q => ⟨xs, ys, _, _, q.1, q.2, List.getElem?_eq_getElem (h1.symm ▸ lt), List.getElem?_eq_getElem (h2.symm ▸ lt)⟩
  stops := fun _ q => ⟨xs, ys, q.1, q.2, .inl (Nat.le_of_eq h1)⟩
  yields := fun i _ _ _ _ q ⟨T, x, z, e1, e2, e3, e4, e5⟩ => ⟨T, x, z, e1, e2, e3, e4 xs q.1, e5 ys q.2⟩
theorem prs_dat {H : Hp} {us : List V} {ps : List (Int × Int)} (h : Prs H us ps) : ∀ (i : Nat) x d, us[i]? = some x → (ps.map pairD)[i]? = some d → Dat H x d := fun i x d e1 e2 => by
  obtain ⟨p, a, ep, rfl, ea⟩ := prs_at h e1
  rw [List.getElem?_map, ep] at e2
  have ed : pairD p = d := Option.some.inj e2
  rw [← ed]
  refine .tup ea rfl fun j y d f1 f2 => ?_
  have hj : j < 2 := (List.getElem?_eq_some_iff.mp f1).1
  have : j = 0 ∨ j = 1 := by omega
  rcases this with rfl | rfl
  · cases f1; cases f2; exact .int _
  · cases f1; cases f2; exact .int _
theorem sm_prs {ps : List (Int × Int)} (h : ps.length ≤ 900) : Sm 2 (.list (ps.map pairD)) := by
  refine ⟨by rw [List.length_map]; exact h, fun d hd => ?_⟩
  obtain ⟨p, _, rfl⟩ := List.mem_map.mp hd
  exact ⟨by show 2 ≤ 900; decide, fun d hd => by
    rcases List.mem_cons.mp hd with e | e
    · rw [e]; trivial
    · rw [List.mem_singleton.mp e]; trivial⟩
theorem ints_dat {H : Hp} {a : Addr} {ns : List Int} (e : H a = some (.lst (ns.map V.int))) : Dat H (.ref a) (.list (ns.map PyData.int)) := .lst e (by rw [List.length_map, List.length_map]) fun i x d e1 e2 => by
  rw [List.getElem?_map] at e1 e2
  cases h : ns[i]? with
  | none => rw [h] at e1; cases e1
  | some n =>
    rw [h] at e1 e2
    cases e1
    cases e2
    exact .int n
theorem sm_ints {ns : List Int} (h : ns.length ≤ 900) : Sm 1 (.list (ns.map PyData.int)) := by
  refine ⟨by rw [List.length_map]; exact h, fun d hd => ?_⟩
  obtain ⟨p, _, rfl⟩ := List.mem_map.mp hd
  trivial

def SqH (H : Hp) (a : Addr) (xs : List V) : Prop := H a = some (.lst xs) ∨ H a = some (.tup xs)

/-! ### defs that are called while nothing is being shown: str of lists within lists -/
/-- a def keeps its promise where nothing is being shown -/
structure FnG (P : Program) (w : World) (K : PySem.W.Frag) (mg : Str → Option Value) (base : Heap) (CX : CXT) (k : Nat) (f : Addr) (fd : FuncData) (ps : List Str) (sp : Sp) : Prop where
  len : ∀ (vs : List V) (H : Hp) (Q : VK) (E : XK), sp vs H Q E → vs.length = ps.length
  run : ∀ (A : Around) (outer : List Env) (s : Shared) (H : Hp) (args : Args) (us : List Value) (vs : List V) (Q : VK) (E : XK), A.guards = some [] → Room k A → Env0 P w K mg base A outer s H → BindsTo s fd args (ps.zip us) → Vals vs us → sp vs H Q E → codeAny (model P w) A (Code.call (Value.ref f) args) (CR CX outer P w H s Q E) s
section
variable {CX : CXT} {P : Program} {w : World} {K : PySem.W.Frag} {mg : Str → Option Value} {base : Heap} {k : Nat}
theorem FnG.of {f : Addr} {fd : FuncData} {ps : List Str} {sp : Sp} (F : FnOk P w K mg base CX k f fd ps sp) : FnG P w K mg base CX k f fd ps sp :=
  ⟨F.len, fun A outer s H args us vs Q E _ hr e0 hb r hsp => F.run A outer s H args us vs Q E hr e0 hb r hsp⟩
theorem fn_ofG {f : Addr} {name qual : Str} {params : Arguments} {body : List Stmt} {scope : Scope} {dV kV doc pm cdv ct oc : Value} {an od : Option Addr} {osl : Array (Option Value)} {N ps : List Str} {sp : Sp}
    (lk : List.lookup f K = some { cls := oc, dict := od, data := Data.func (PySem.W.fnOf name qual params body scope dV kV doc pm an cdv ct), slots := osl }) (hcd : PySem.W.codeIn K cdv qual = true) (S : FnScope N ps scope)
    (len : ∀ (vs : List V) (H : Hp) (Q : VK) (E : XK), sp vs H Q E → vs.length = ps.length)
    (hbody : ∀ (A : Around) (outer : List Env) (s : Shared) (H : Hp) (vs : List V) (Q : VK) (E : XK), A.guards = some [] → Room k (A.deeper (PyProof.Rows.envOfC qual scope s.heap.objs.size f cdv)) → sp vs H Q E →
      ∃ t, PSs (cxOf CX P w K mg base N qual scope f cdv A outer s H E) body t ∧ t { nx := fun _ H' => Q V.non H', rt := Q } (L2.start N vs) H) :
    FnG P w K mg base CX (k + 1) f (PySem.W.fnOf name qual params body scope dV kV doc pm an cdv ct) ps sp := by
  refine ⟨len, fun A outer s H args us vs Q E hgd hr e0 hb r hsp => ?_⟩
  have hl := len vs H Q E hsp
  have KX := PySem.W.Frag.In.keeps e0.mod.kin fun b o e => (e0.bs b o e).1
  have lim := Heap.NoLimit.keeps e0.mod.nolimit fun b o e => (e0.bs b o e).1
  refine codeAny_call_function (Room.depth hr) (KX f _ lk) rfl S.co S.gen rfl (PySem.W.codeRec_of KX hcd) (hb (model P w) A.in1 _ _ (wpAny_newFunctionEnv_cells S.kind (fun x hy => ?_) fun env he s1 x => ?_))
  · obtain ⟨n, v⟩ := x
    rcases S.par n (List.of_mem_zip hy).1 with q | q
    · exact .inl q
    · exact .inr ⟨q, PySem.W.cellsFrom_some scope.names _ [] (.inl q)⟩
  · subst he
    refine ⟨Heap.NoLimit.keeps lim x.toInCall.keep, codeAny_func ?_⟩
    obtain ⟨t, ht, hq⟩ := hbody A outer s H vs Q E hgd (Room.deeper hr _) hsp
    have I := inv_start (CX := CX) (E := E) S hr.hd e0 hl r x
    refine wpAny_mono (ht.run [] s1 (L2.start N vs) H _ I hq) (fun fl s' hs => ?_) (fun e s' hs => hs)
    cases fl with
    | ret u =>
      obtain ⟨v, σ', H', J, rv, q⟩ := hs
      exact ⟨v, H', J.os, J.bare, J.base, J.hok, rv, q⟩
    | next =>
      obtain ⟨σ', H', J, q⟩ := hs
      exact ⟨V.non, H', J.os, J.bare, J.base, J.hok, rfl, q⟩
    | _ =>
      obtain ⟨_, _, _, q⟩ := hs
      exact q.elim
theorem Fun_okG {x qual : Str} {st : Stmt} {f : Addr} {fd : FuncData} {N ps : List Str} {sp : Sp} (F : Fun K x qual st f fd) (S : FnScope N ps (defScope st))
    (len : ∀ (vs : List V) (H : Hp) (Q : VK) (E : XK), sp vs H Q E → vs.length = ps.length)
    (hbody : ∀ (cdv : Value) (A : Around) (outer : List Env) (s : Shared) (H : Hp) (vs : List V) (Q : VK) (E : XK), A.guards = some [] → Room k (A.deeper (PyProof.Rows.envOfC qual (defScope st) s.heap.objs.size f cdv)) → sp vs H Q E →
      ∃ t, PSs (cxOf CX0 P w K mg base N qual (defScope st) f cdv A outer s H E).nox (defBody st) t ∧ t { nx := fun _ H' => Q V.non H', rt := Q } (L2.start N vs) H) :
    FnG P w K mg base CX0 (k + 1) f fd ps sp := by
  obtain ⟨oc, od, kV, doc, pm, an, cdv, ct, osl, rfl, lk, hcd⟩ := F.ex
  refine fn_ofG lk hcd S len fun A outer s H vs Q E hg hr hsp => ?_
  obtain ⟨t, h, q⟩ := hbody cdv A outer s H vs Q E hg hr hsp
  exact ⟨t, PSs.nox h, q⟩
end
theorem run_fnG {X : Cx} {CX : CXT} {k : Nat} {f : Addr} {fd : FuncData} {ps : List Str} {sp : Sp} {dvs : List V} {ds : List Value} {E : XK} {pins : List (Addr × Obj)} {σ : L2.St} {H : Hp} {s : Shared} {Q : VK} {us : List Value} {vs : List V}
    (F : FnG X.prog X.w X.K X.mg X.base CX k f fd ps sp) (hgd : X.A.guards = some []) (hr : Room k X.A) (hb : Binds X.K fd ps ds) (hd : Vals dvs ds) (hx : Passes CX X E) (I : L2.Inv X pins σ H s) (r : Vals vs us) (h : sp (vs ++ dvs) H Q E) :
    wpAny (model X.prog X.w) X.A (call (Value.ref f) us) (EP X pins σ Q) X.xe s := by
  have r2 := Vals.append r hd
  have hl : (us ++ ds).length = ps.length := by rw [← Vals.length r2]; exact F.len _ _ _ _ h
  refine wpAny_call (codeAny_mono (F.run X.A X.stack s H _ _ _ Q E hgd hr (Inv.env0 I) (hb s us (Inv.kIn I) hl) r2 h) fun r s' hq => ?_)
  cases r with
  | error e => exact hx pins σ H s e s' I hq
  | ok fl =>
    cases fl with
    | ret u => exact Inv.after I hq
    | _ => exact hq.elim
/-- a def of the text that keeps a promise where nothing is being shown, as its callers see it -/
def CalG (P : Program) (w : World) (K : PySem.W.Frag) (mg : Str → Option Value) (base : Heap) (k : Nat) (x : Str) (ps : List Str) (sp : Sp) : Prop :=
  ∃ f fd, FnG P w K mg base CX0 k f fd ps sp ∧ mg x = some (.ref f) ∧ PySem.W.keepIn K (.ref f) = true ∧ Binds K fd ps []
theorem pe_ownG {X : Cx} {k : Nat} {x : Str} {ps : List Str} {sp : Sp} {e : Expr} {es : List Expr} {t : TA} {p pos : Pos} (C : CalG X.prog X.w X.K X.mg X.base k x ps sp) (hgd : X.A.guards = some []) (hr : Room k X.A) (hg : Gl X x) (ha : PA X (e :: es) t)
    (dbg : (x == ("__debug__" : Str)) = false := by decide) (one : starEach (e :: es) X.env = (false, eval e X.env) :: starEach es X.env := by rfl) (star : (backTo pos (starEach es X.env)).any (·.1) = false := by rfl) :
    PE X (.Call (.Name x p) (e :: es) [] pos) (tCall sp [] E0 t) := by
  obtain ⟨f, fd, F, hm, hk, hb⟩ := C
  refine ⟨fun pins s σ H Q I h => wpAny_Call_Name_kw (ld_glob I hg hm (PySem.W.callWith_K I.ok.mod.kin hk (thn (ha.run pos pins s σ H _ I h) fun us s1 z => ?_) one star) dbg)⟩
  obtain ⟨vs, H1, I1, r, q⟩ := z
  exact ⟨Inv.kIn I1, run_fnG F hgd hr hb .nil pass0 I1 r q⟩
/-- str of data -/
def rStrD (K : PySem.W.Frag) : List V → Hp → VK → Prop := fun xs H Q => ∃ (a : Addr) (d : PyData), xs = [.ref a] ∧ Dp K H (.ref a) d ∧ d.showable = true ∧ d.hasDict = false ∧ d.depth ≤ 8 ∧ d.shown.length ≤ sizeLine ∧ Q (.str d.shown) H
theorem cr_strD {X : Cx} (hg : X.A.guards = some []) (hu : X.A.units + 11 < cLine) : CallR X (.type "str") (rStrD X.K) := fun pins s σ H xs us Q I hv h => by
  obtain ⟨a, d, rfl, hd, h1, h2, h3, h4, q⟩ := h
  cases hv with
  | cons ru hn =>
    cases hn
    cases ru
    obtain ⟨as, hR⟩ := Dp.reads I d (.ref a) (.ref a) hd rfl
    exact str_of_reads hR h1 (fun z => by rw [h2] at z; cases z) hg (by omega) (fun b o e => e) (fun h' u tk keep => ⟨.str d.shown, H, I.kept keep, ⟨u, rfl⟩, q⟩) h4
/-! ### the end -/
theorem law_callG {P : Program} {w : World} {K : PySem.W.Frag} {mg mb : Str → Option Value} {CX : CXT} {k : Nat} {fa a : Addr} {fd : FuncData} {x : Str} {sp : Sp} {s₁ : Shared} {vs : List Value} {ns : List Int}
    (KX : K.In s₁.heap) (hns : s₁.heap.Ns mainGlobals mg) (hb : s₁.heap.Ns builtinsNs mb) (hbb : ∀ (x : Str), x ≠ Str.ofString "__name__" → mb x = bootBuiltins x) (hlim : s₁.heap.NoLimit) (hg : s₁.gens = #[])
    (ha : s₁.heap.get? a = some { cls := Value.type "list", data := Data.seq vs.toArray }) (hi : PyProof.Rows.IntsAre vs ns) (hl : ns.length ≤ sizeLine) (hr : Room k callerA)
    (F : ∀ (base : Heap), K.In base → base.Ns mainGlobals mg → FnG P w K mg base CX k fa fd [x] sp) (hbind : ∀ (s : Shared) (u : Value), BindsTo s fd { pos := [u] } [(x, u)])
    (hsp : ∀ (H : Hp), Only H → SqL K H a (List.map V.int ns) → sp [V.ref a] H (fun v _ => v = V.bl true) fun _ _ _ => False) (hCX : ∀ (H : Hp) (e : Value) (s' : Shared), CX [] H s₁ (fun _ _ _ => False) e s' → False) :
    codeAny (model P w) callerA (Code.call (Value.ref fa) { pos := [Value.ref a] }) (fun r s' => r = Except.ok (Flow.ret (Value.bool true)) ∧ OldK s₁.heap s'.heap ∧ s'.os = s₁.os ∧ PyProof.Rows.AllBare s'.gens) s₁ := by
  have rv := vals_ints hi
  have lenV := PyProof.Rows.IntsAre.length hi
  have core : ∀ H : Hp, Only H → SqL K H a (List.map V.int ns) → HOk P w H s₁.heap → (∀ b, H b ≠ none → b = a) → (H a ≠ none → List.lookup a K = none) →
      codeAny (model P w) callerA (Code.call (Value.ref fa) { pos := [Value.ref a] }) (fun r s' => r = Except.ok (Flow.ret (Value.bool true)) ∧ OldK s₁.heap s'.heap ∧ s'.os = s₁.os ∧ PyProof.Rows.AllBare s'.gens) s₁ := by
    intro H hO hS hok hA hK
    have isA : ∀ {b : Addr} {u : HO}, H b = some u → b = a := fun {b u} hh => hA b (by rw [hh]; exact fun z => nomatch z)
    have noA : ∀ {b : Addr} {o : Obj} {es ep}, s₁.heap.get? b = some o → o.data = Data.dict es ep → H b = none := by
      intro b o es ep e d
      cases hh : H b with
      | none => rfl
      | some u =>
        rw [isA hh, ha] at e
        rw [← Option.some.inj e] at d
        cases d
    have nsK : ∀ {b : Addr} {m : Str → Option Value}, s₁.heap.Ns b m → (hidT s₁.heap H).Ns b m := fun {b m} z => by
      obtain ⟨o, es, ep, e, d, r⟩ := z
      exact ⟨o, es, ep, hidT_get e (noA e d), d, r⟩
    have hKb : K.In (hidT s₁.heap H) := fun b o e => hidT_get (KX b o e) (by
      cases hh : H b with
      | none => rfl
      | some u =>
        rw [isA hh, hK (by rw [isA hh] at hh; rw [hh]; exact fun z => nomatch z)] at e
        cases e)
    have hM : L2.Mod K mg (hidT s₁.heap H) := ⟨hKb, nsK hns, ⟨mb, nsK hb, hbb⟩, let ⟨mc, h1, h2⟩ := hlim; ⟨mc, nsK h1, h2⟩⟩
    have e0 : Env0 P w K mg (hidT s₁.heap H) callerA [] s₁ H := ⟨rfl, hM, fun b o e => of_hidT e, Nat.le_of_eq (hidT_size ..), trivial, fun b hb => (nomatch hb), hok, .of_eq hg⟩
    refine codeAny_mono ((F _ hKb (nsK hns)).run callerA [] s₁ H ⟨[.ref a], []⟩ [.ref a] [.ref a] (fun v _ => v = .bl true) (fun _ _ _ => False) rfl hr e0 (hbind s₁ (.ref a)) (.cons rfl .nil) (hsp H hO hS)) fun r s' h => ?_
    cases r with
    | error e => exact (hCX H e s' h).elim
    | ok fl =>
      cases fl with
      | ret u =>
        obtain ⟨v, H', os, bare, un, hok', r', q⟩ := h
        subst q
        cases r'
        refine ⟨rfl, OldK.of_keep fun b o e => ?_, os, bare⟩
        cases hh : H b with
        | none => exact un.keep b o e hh (fun z => nomatch z) (fun z => nomatch z)
        | some u =>
          rcases hO b with z | ⟨ob, xs, z⟩
          · rw [z] at hh; cases hh
          · have z2 := un.frzs b ob (HO.lst xs) z
            have e1 := (hok b _ z).1
            have e2 := (hok' b _ z2).1
            rw [e] at e1
            rw [Option.some.inj e1]
            exact e2
      | _ => exact h.elim
  cases hk : List.lookup a K with
  | none =>
    have at_a : (fun b => if b = a then some (HO.frz { cls := Value.type "list", data := Data.seq vs.toArray } (HO.lst (List.map V.int ns))) else none : Hp) a = some (HO.frz { cls := Value.type "list", data := Data.seq vs.toArray } (HO.lst (List.map V.int ns))) := if_pos rfl
    refine core (fun b => if b = a then some (HO.frz { cls := Value.type "list", data := Data.seq vs.toArray } (HO.lst (List.map V.int ns))) else none) (fun b => ?_) (.inl (.inr ⟨_, at_a⟩)) (fun b u z => ?_) (fun b z => ?_) (fun _ => hk)
    · by_cases hb : b = a
      · exact .inr ⟨_, _, if_pos hb⟩
      · exact .inl (if_neg hb)
    · by_cases hb : b = a
      · have z' := Eq.trans (Eq.symm (if_pos hb)) z
        cases z'
        subst hb
        exact ⟨ha, by rw [List.length_map]; exact hl, vs, 0, rv, ha⟩
      · have z' := Eq.trans (Eq.symm (if_neg hb)) z
        cases z'
    · by_cases hb : b = a
      · exact hb
      · exact absurd (if_neg hb) z
  | some o =>
    have e := KX a o hk
    rw [ha] at e
    cases e
    exact core (fun _ => none) (fun _ => .inl rfl) (.inr ⟨_, vs.toArray, 0, hk, rfl, rfl, rfl, by rw [List.size_toArray, lenV]; exact hl, rv⟩) (fun b u z => nomatch z) (fun b z => absurd rfl z) (fun z => absurd rfl z)
def LawAtG (l : PySem.W.OpenLaw) (w : World) (K : PySem.W.Frag) (k : Nat) (mg : Str → Option Value) (fa : Addr) : Prop :=
  ∃ (fd : FuncData) (sp : Sp), (∀ (s : Shared) (u : Value), BindsTo s fd { pos := [u] } [("_law_script", u)]) ∧ (∀ (H : Hp) (a : Addr) (ns : List Int), ns.length ≤ 63 → SqL K H a (List.map V.int ns) → sp [V.ref a] H (fun v _ => v = V.bl true) fun _ _ _ => False) ∧
    ∀ (base : Heap), K.In base → base.Ns mainGlobals mg → FnG l.prog w K mg base CX0 k fa fd ["_law_script"] sp
theorem law_endG {l : PySem.W.OpenLaw} {k : Nat} {q : Program} {loose : List Str} {XP : (Str → Option Value) → Heap → Prop} {YP : World → Heap → Prop} {d : DefRec} {K : Params → PySem.W.Frag} (most : l.most = some 63) (plain : d.params.defaults = []) (room : Room k callerA)
    (part : ∀ w h, YP w h → (K w.params).In h) (made : ∀ (w : World) (mg : Str → Option Value) (f : Addr) (h : Heap), (K w.params).In h → h.Ns mainGlobals mg → mg d.name = some (.ref f) → LawAtG l w (K w.params) k mg f) : PySem.W.WalkO q loose XP YP l.row.toRowW d [] (fun f vs => PySem.call f vs) := by
  refine Att.attach_callB most plain ?_
  intro w _ s₁ mg _ f _ _ _ _ a vs ns ground said _ _ _ name script nums len size still
  have X := part w _ said
  obtain ⟨fd, sp, e4, e5, e6⟩ := made w mg f _ X ground.T.g name
  exact law_callG X ground.T.g ground.T.b ground.T.builtins ground.T.nolimit still script nums (Nat.le_trans len (by decide)) room e6 e4 (fun H z1 z2 => e5 H a ns len z2) fun _ _ _ z => z

/-- an expression, then a word of what it gives: what follows is shown once -/
def tMid (te : TE) : TE := fun σ H Q => ∃ M : V → Hp → Prop, te σ H M ∧ ∀ v H', M v H' → Q v H'
theorem pe_mid {X : Cx} {e : Expr} {te : TE} (h : PE X e te) : PE X e (tMid te) := ⟨fun pins s σ H Q I ⟨M, h1, h2⟩ => thn (h.run pins s σ H M I h1) fun _ _ ⟨y, H1, I1, r, q⟩ => ⟨y, H1, I1, r, h2 _ _ q⟩⟩

/-! ### things as data; of the lists among them this holds -/
inductive DatN (N : Addr → Prop) (H : Hp) : V → PyData → Prop
  | non : DatN N H .non .none
  | bl (b : Bool) : DatN N H (.bl b) (.bool b)
  | int (i : Int) : DatN N H (.int i) (.int i)
  | str (x : Str) : DatN N H (.str x) (.str x)
  | lst {a : Addr} {xs : List V} {ds : List PyData} : N a → H a = some (.lst xs) → xs.length = ds.length → (∀ (i : Nat) x d, xs[i]? = some x → ds[i]? = some d → DatN N H x d) → DatN N H (.ref a) (.list ds)
  | tup {a : Addr} {xs : List V} {ds : List PyData} : H a = some (.tup xs) → xs.length = ds.length → (∀ (i : Nat) x d, xs[i]? = some x → ds[i]? = some d → DatN N H x d) → DatN N H (.ref a) (.tuple ds)
/-- tuples stay, and the lists of which this holds -/
structure Kps (N : Addr → Prop) (H H' : Hp) : Prop where
  tup : ∀ a xs, H a = some (.tup xs) → H' a = some (.tup xs)
  lst : ∀ a xs, N a → H a = some (.lst xs) → H' a = some (.lst xs)
theorem Kps.same {N : Addr → Prop} {H H' : Hp} (s : Same H H') : Kps N H H' := ⟨fun a xs e => s a _ e, fun a xs _ e => s a _ e⟩
theorem Kps.kp {N : Addr → Prop} {H H' : Hp} {d c : Addr} {t : Int} (k : Kp d c H H') (S : StAt H d c t) (hN : ∀ a, N a → a ≠ c) : Kps N H H' :=
  ⟨fun a xs e => k.tup S e, fun a xs n e => k a _ (fun z => by rw [z, S.dict] at e; cases e) (hN a n) e⟩
theorem Kps.upd {N : Addr → Prop} {H : Hp} {D : Addr} {ys : List V} {o : HO} (e : H D = some (.lst ys)) (hN : ∀ a, N a → a ≠ D) : Kps N H (upd H D o) :=
  ⟨fun a xs f => by rw [upd_ne (ne_of f e (fun z => nomatch z))]; exact f, fun a xs n f => by rw [upd_ne (hN a n)]; exact f⟩
theorem Kps.upd_dK {N : Addr → Prop} {H : Hp} {D : Addr} {ks : List (Key × V)} {o : HO} (e : H D = some (.dK ks)) : Kps N H (L2.upd H D o) :=
  ⟨fun a xs f => by rw [upd_ne (ne_of f e (fun z => nomatch z))]; exact f, fun a xs n f => by rw [upd_ne (ne_of f e (fun z => nomatch z))]; exact f⟩
theorem Kps.trans {N : Addr → Prop} {H H1 H2 : Hp} (a : Kps N H H1) (b : Kps N H1 H2) : Kps N H H2 := ⟨fun x xs e => b.tup x xs (a.tup x xs e), fun x xs n e => b.lst x xs n (a.lst x xs n e)⟩
theorem DatN.keep {N : Addr → Prop} {H H' : Hp} {v : V} {d : PyData} (h : DatN N H v d) (k : Kps N H H') : DatN N H' v d := by
  induction h with
  | non => exact .non
  | bl b => exact .bl b
  | int i => exact .int i
  | str x => exact .str x
  | lst n e l _ ih => exact .lst n (k.lst _ _ n e) l ih
  | tup e l _ ih => exact .tup (k.tup _ _ e) l ih
theorem DatN.same {N : Addr → Prop} {H H' : Hp} {v : V} {d : PyData} (h : DatN N H v d) (s : Same H H') : DatN N H' v d := h.keep (.same s)
theorem DatN.weak {N N' : Addr → Prop} {H : Hp} {v : V} {d : PyData} (h : DatN N H v d) (w : ∀ a xs, N a → H a = some (.lst xs) → N' a) : DatN N' H v d := by
  induction h with
  | non => exact .non
  | bl b => exact .bl b
  | int i => exact .int i
  | str x => exact .str x
  | lst n e l _ ih => exact .lst (w _ _ n e) e l ih
  | tup e l _ ih => exact .tup e l ih
theorem DatN.dat {N : Addr → Prop} {H : Hp} {v : V} {d : PyData} (h : DatN N H v d) : Dat H v d := by
  induction h with
  | non => exact .non
  | bl b => exact .bl b
  | int i => exact .int i
  | str x => exact .str x
  | lst n e l _ ih => exact .lst e l ih
  | tup e l _ ih => exact .tup e l ih
theorem dpAll_of {K : PySem.W.Frag} {H : Hp} : ∀ {xs : List V} {ds : List PyData}, xs.length = ds.length → (∀ (i : Nat) x d, xs[i]? = some x → ds[i]? = some d → Dp K H x d) → DpAll K H xs ds
  | [], [], _, _ => .nil
  | [], _ :: _, e, _ => nomatch e
  | _ :: _, [], e, _ => nomatch e
  | x :: xs, d :: ds, e, h => .cons (h 0 x d rfl rfl) (dpAll_of (Nat.succ.inj e) fun i y c e1 e2 => h (i + 1) y c e1 e2)
theorem DatN.dp {K : PySem.W.Frag} {N : Addr → Prop} {H : Hp} {v : V} {d : PyData} (h : DatN N H v d) : Dp K H v d := by
  induction h with
  | non => exact .non
  | bl b => exact .bl b
  | int i => exact .int i
  | str x => exact .str x
  | lst n e l _ ih => exact .lst (SqL.of e) (dpAll_of l ih)
  | tup e l _ ih => exact .tup (.inl (.inl e)) (dpAll_of l ih)
/-- things one by one as data -/
def EchN (N : Addr → Prop) (H : Hp) (xs : List V) (ds : List PyData) : Prop := xs.length = ds.length ∧ ∀ (i : Nat) x d, xs[i]? = some x → ds[i]? = some d → DatN N H x d
theorem EchN.keep {N : Addr → Prop} {H H' : Hp} {xs : List V} {ds : List PyData} (h : EchN N H xs ds) (k : Kps N H H') : EchN N H' xs ds := ⟨h.1, fun i x d e1 e2 => (h.2 i x d e1 e2).keep k⟩
theorem EchN.same {N : Addr → Prop} {H H' : Hp} {xs : List V} {ds : List PyData} (h : EchN N H xs ds) (s : Same H H') : EchN N H' xs ds := h.keep (.same s)
theorem EchN.weak {N N' : Addr → Prop} {H : Hp} {xs : List V} {ds : List PyData} (h : EchN N H xs ds) (w : ∀ a xs, N a → H a = some (.lst xs) → N' a) : EchN N' H xs ds := ⟨h.1, fun i x d e1 e2 => (h.2 i x d e1 e2).weak w⟩
theorem EchN.nil {N : Addr → Prop} {H : Hp} : EchN N H [] [] := ⟨rfl, fun _ _ _ e => nomatch e⟩
theorem EchN.cons {N : Addr → Prop} {H : Hp} {x : V} {d : PyData} {xs : List V} {ds : List PyData} (h : DatN N H x d) (hr : EchN N H xs ds) : EchN N H (x :: xs) (d :: ds) :=
  ⟨congrArg (· + 1) hr.1, fun i y e e1 e2 => by
    cases i with
    | zero => cases e1; cases e2; exact h
    | succ i => exact hr.2 i y e e1 e2⟩
theorem EchN.one {N : Addr → Prop} {H : Hp} {x : V} {d : PyData} (h : DatN N H x d) : EchN N H [x] [d] := .cons h .nil
theorem getElem?_two {α β : Type} {xs ys : List α} {us ws : List β} (l : xs.length = us.length) {i : Nat} {x : α} {u : β} (e1 : (xs ++ ys)[i]? = some x) (e2 : (us ++ ws)[i]? = some u) : (xs[i]? = some x ∧ us[i]? = some u) ∨ (ys[i - xs.length]? = some x ∧ ws[i - xs.length]? = some u) := by
  by_cases hi : i < xs.length
  · rw [List.getElem?_append_left hi] at e1
    rw [List.getElem?_append_left (by omega)] at e2
    exact .inl ⟨e1, e2⟩
  · rw [List.getElem?_append_right (by omega)] at e1 e2
    rw [← l] at e2
    exact .inr ⟨e1, e2⟩
theorem EchN.app {N : Addr → Prop} {H : Hp} {xs ys : List V} {ds es : List PyData} (h : EchN N H xs ds) (h' : EchN N H ys es) : EchN N H (xs ++ ys) (ds ++ es) :=
  ⟨by rw [List.length_append, List.length_append, h.1, h'.1], fun i v p e1 e2 => (getElem?_two h.1 e1 e2).elim (fun z => h.2 i v p z.1 z.2) (fun z => h'.2 _ v p z.1 z.2)⟩
theorem EchN.snoc {N : Addr → Prop} {H : Hp} {xs : List V} {ds : List PyData} {x : V} {d : PyData} (h : EchN N H xs ds) (h' : DatN N H x d) : EchN N H (xs ++ [x]) (ds ++ [d]) := h.app (.one h')
theorem EchN.at {N : Addr → Prop} {H : Hp} {xs : List V} {ds : List PyData} {i : Nat} {x : V} (h : EchN N H xs ds) (e : xs[i]? = some x) : ∃ d, ds[i]? = some d ∧ DatN N H x d := by
  have hi : i < ds.length := by rw [← h.1]; exact (List.getElem?_eq_some_iff.mp e).1
  exact ⟨_, List.getElem?_eq_getElem hi, h.2 i x _ e (List.getElem?_eq_getElem hi)⟩
theorem EchN.atM {α : Type} {N : Addr → Prop} {H : Hp} {xs : List V} {f : α → PyData} {ys : List α} {i : Nat} {x : V} (h : EchN N H xs (ys.map f)) (e : xs[i]? = some x) : ∃ y, ys[i]? = some y ∧ DatN N H x (f y) := by
  obtain ⟨d, e1, e2⟩ := h.at e
  rw [List.getElem?_map] at e1
  cases h : ys[i]? with
  | none => rw [h] at e1; cases e1
  | some y => rw [h] at e1; cases e1; exact ⟨y, rfl, e2⟩
theorem DatN.list {N : Addr → Prop} {H : Hp} {v : V} {ds : List PyData} (h : DatN N H v (.list ds)) : ∃ a xs, v = .ref a ∧ N a ∧ H a = some (.lst xs) ∧ EchN N H xs ds := by
  cases h with
  | lst n e l r => exact ⟨_, _, rfl, n, e, l, r⟩
theorem DatN.tuple {N : Addr → Prop} {H : Hp} {v : V} {ds : List PyData} (h : DatN N H v (.tuple ds)) : ∃ a xs, v = .ref a ∧ H a = some (.tup xs) ∧ EchN N H xs ds := by
  cases h with
  | tup e l r => exact ⟨_, _, rfl, e, l, r⟩
theorem EchN.lst {N : Addr → Prop} {H : Hp} {a : Addr} {xs : List V} {ds : List PyData} (h : EchN N H xs ds) (n : N a) (e : H a = some (.lst xs)) : DatN N H (.ref a) (.list ds) := .lst n e h.1 h.2
theorem EchN.tup {N : Addr → Prop} {H : Hp} {a : Addr} {xs : List V} {ds : List PyData} (h : EchN N H xs ds) (e : H a = some (.tup xs)) : DatN N H (.ref a) (.tuple ds) := .tup e h.1 h.2
theorem EchN.inv {N : Addr → Prop} {H : Hp} {xs : List V} {d : PyData} {ds : List PyData} (h : EchN N H xs (d :: ds)) : ∃ x xs', xs = x :: xs' ∧ DatN N H x d ∧ EchN N H xs' ds := by
  cases xs with
  | nil => exact nomatch h.1
  | cons x xs => exact ⟨x, xs, rfl, h.2 0 x d rfl rfl, Nat.succ.inj h.1, fun i y e e1 e2 => h.2 (i + 1) y e e1 e2⟩
theorem EchN.inv0 {N : Addr → Prop} {H : Hp} {xs : List V} (h : EchN N H xs []) : xs = [] := List.eq_nil_of_length_eq_zero h.1
theorem DatN.inv_int {N : Addr → Prop} {H : Hp} {v : V} {i : Int} (h : DatN N H v (.int i)) : v = .int i := by cases h; rfl
theorem DatN.inv_str {N : Addr → Prop} {H : Hp} {v : V} {x : Str} (h : DatN N H v (.str x)) : v = .str x := by cases h; rfl
theorem DatN.inv_non {N : Addr → Prop} {H : Hp} {v : V} (h : DatN N H v .none) : v = .non := by cases h; rfl
theorem DatN.inv_bl {N : Addr → Prop} {H : Hp} {v : V} {b : Bool} (h : DatN N H v (.bool b)) : v = .bl b := by cases h; rfl
theorem echN_ints {N : Addr → Prop} {H : Hp} (ns : List Int) : EchN N H (ns.map V.int) (ns.map PyData.int) := ⟨by rw [List.length_map, List.length_map], fun i x d e1 e2 => by
  rw [List.getElem?_map] at e1 e2
  cases h : ns[i]? with
  | none => rw [h] at e1; cases e1
  | some n =>
    rw [h] at e1 e2
    cases e1
    cases e2
    exact .int n⟩
theorem echN_strs {N : Addr → Prop} {H : Hp} (ns : List Str) : EchN N H (ns.map V.str) (ns.map PyData.str) := ⟨by rw [List.length_map, List.length_map], fun i x d e1 e2 => by
  rw [List.getElem?_map] at e1 e2
  cases h : ns[i]? with
  | none => rw [h] at e1; cases e1
  | some n =>
    rw [h] at e1 e2
    cases e1
    cases e2
    exact .str n⟩
theorem EchN.ints {N : Addr → Prop} {H : Hp} : ∀ {xs : List V} {ns : List Int}, EchN N H xs (ns.map PyData.int) → xs = ns.map V.int
  | _, [], h => h.inv0
  | _, n :: r, h => by
    obtain ⟨x, xs', rfl, h1, h2⟩ := EchN.inv h
    rw [h1.inv_int, EchN.ints h2]
    rfl
theorem EchN.strs {N : Addr → Prop} {H : Hp} : ∀ {xs : List V} {ns : List Str}, EchN N H xs (ns.map PyData.str) → xs = ns.map V.str
  | _, [], h => h.inv0
  | _, n :: r, h => by
    obtain ⟨x, xs', rfl, h1, h2⟩ := EchN.inv h
    rw [h1.inv_str, EchN.strs h2]
    rfl
/-- pairs of whole numbers -/
theorem _root_.GP.Prs.ech {N : Addr → Prop} {H : Hp} {us : List V} {ps : List (Int × Int)} (h : Prs H us ps) : EchN N H us (ps.map pairD) := ⟨by rw [List.length_map]; exact h.1, fun i x d e1 e2 => by
  obtain ⟨p, a, ep, rfl, ea⟩ := prs_at h e1
  rw [List.getElem?_map, ep] at e2
  cases e2
  exact EchN.tup (.cons (.int _) (.one (.int _))) ea⟩
theorem EchN.prs {N : Addr → Prop} {H : Hp} {us : List V} {ps : List (Int × Int)} (h : EchN N H us (ps.map pairD)) : Prs H us ps := ⟨by have := h.1; rwa [List.length_map] at this, fun i p ep => by
  have hi : i < us.length := by
    rw [h.1, List.length_map]
    exact (List.getElem?_eq_some_iff.mp ep).1
  obtain ⟨y, e1, e2⟩ := h.atM (List.getElem?_eq_getElem hi)
  rw [ep] at e1
  cases e1
  obtain ⟨a, xs, ev, ea, r⟩ := e2.tuple
  obtain ⟨x1, r1, rfl, d1, r2⟩ := r.inv
  obtain ⟨x2, r3, rfl, d2, r4⟩ := r2.inv
  rw [r4.inv0, d1.inv_int, d2.inv_int] at ea
  exact ⟨a, by rw [List.getElem?_eq_getElem hi, ev], ea⟩⟩
/-- new since then -/
abbrev NewIn (H : Hp) : Addr → Prop := fun a => H a = none
def setD (ps : List (Int × Int)) : PyData := .list (ps.map pairD)
/-! ### what can be shown -/
structure Shw (n w : Nat) (d : PyData) : Prop where
  sh : d.showable = true
  nd : d.hasDict = false
  dp : d.depth ≤ n
  ls : d.leavesShort 40 = true
  wt : d.weight ≤ w
theorem Shw.mono {n w n' w' : Nat} {d : PyData} (h : Shw n w d) (h1 : n ≤ n') (h2 : w ≤ w') : Shw n' w' d := ⟨h.sh, h.nd, Nat.le_trans h.dp h1, h.ls, Nat.le_trans h.wt h2⟩
theorem Shw.int {n : Nat} {i : Int} (h : i.natAbs < 10 ^ 39) : Shw n 131 (.int i) := by
  refine ⟨?_, by rw [PyData.hasDict], by rw [PyData.depth]; omega, ?_, ?_⟩
  · rw [PyData.showable]
    by_cases z : i.natAbs = 0
    · rw [z]; decide
    · exact decide_eq_true (Nat.lt_trans ((Nat.log2_lt (k := 130) z).mpr (Nat.lt_trans h (by decide))) (by decide))
  · rw [PyData.leavesShort]
    have e := int_text_length_le10 (k := 39) (by decide) h
    refine decide_eq_true ?_
    show (Str.ofString (toString i)).length ≤ 40
    rw [PySem.ofString_length]
    exact e
  · rw [PyData.weight]
    split
    · omega
    · by_cases z : i.natAbs = 0
      · rw [z]; decide
      · have : i.natAbs.log2 < 130 := (Nat.log2_lt z).mpr (Nat.lt_trans h (by decide))
        omega
theorem Shw.str {n w : Nat} {x : Str} (h : PyData.strOk x = true) (hl : x.length ≤ w) : Shw n w (.str x) := by
  refine ⟨by rw [PyData.showable], by rw [PyData.hasDict], by rw [PyData.depth]; omega, ?_, by rw [PyData.weight]; exact hl⟩
  rw [PyData.leavesShort, List.all_eq_true]
  intro c hc
  have h' : x.cps.all (· < 0x110000) = true := h
  rw [Array.all_eq_true'] at h'
  have := of_decide_eq_true (h' c (by simpa using hc))
  exact decide_eq_true (Nat.lt_trans this (by decide))
theorem Shw.none {n w : Nat} : Shw n w .none := ⟨by rw [PyData.showable], by rw [PyData.hasDict], by rw [PyData.depth]; omega, by rw [PyData.leavesShort], by rw [PyData.weight]; omega⟩
theorem Shw.bool {n w : Nat} {b : Bool} : Shw n w (.bool b) := ⟨by rw [PyData.showable], by rw [PyData.hasDict], by rw [PyData.depth]; omega, by rw [PyData.leavesShort], by rw [PyData.weight]; omega⟩
theorem shwAll : ∀ {n w : Nat} {ds : List PyData}, (∀ d ∈ ds, Shw n w d) → PyData.showableAll ds = true ∧ PyData.hasDictAll ds = false ∧ PyData.depthAll ds ≤ n ∧ PyData.leavesShortAll 40 ds = true ∧ PyData.weightAll ds ≤ ds.length * (w + 1)
  | n, w, [], _ => by simp [PyData.leavesShortAll, PyData.weightAll, PyData.showableAll, PyData.hasDictAll, PyData.depthAll]
  | n, w, d :: r, h => by
    obtain ⟨g1, g2, g3, g4, g5⟩ := shwAll (ds := r) fun q hq => h q (List.mem_cons_of_mem _ hq)
    obtain ⟨h1, h2, h3, h4, h5⟩ := h d (List.mem_cons_self ..)
    refine ⟨by rw [PyData.showableAll, h1, g1]; rfl, by rw [PyData.hasDictAll, h2, g2]; rfl, by rw [PyData.depthAll]; omega, by rw [PyData.leavesShortAll, h4, g4]; rfl, ?_⟩
    rw [PyData.weightAll, List.length_cons, Nat.succ_mul]
    omega
theorem Shw.list {n w m W : Nat} {ds : List PyData} (h : ∀ d ∈ ds, Shw n w d) (hl : ds.length ≤ m) (hW : m * (w + 1) ≤ W) : Shw (n + 1) W (.list ds) := by
  obtain ⟨g1, g2, g3, g4, g5⟩ := shwAll h
  have := Nat.mul_le_mul_right (w + 1) hl
  exact ⟨by rw [PyData.showable]; exact g1, by rw [PyData.hasDict]; exact g2, by rw [PyData.depth]; omega, by rw [PyData.leavesShort]; exact g4, by rw [PyData.weight]; omega⟩
theorem Shw.tuple {n w m W : Nat} {ds : List PyData} (h : ∀ d ∈ ds, Shw n w d) (hl : ds.length ≤ m) (hW : m * (w + 1) ≤ W) : Shw (n + 1) W (.tuple ds) := by
  obtain ⟨g1, g2, g3, g4, g5⟩ := shwAll h
  have := Nat.mul_le_mul_right (w + 1) hl
  exact ⟨by rw [PyData.showable]; exact g1, by rw [PyData.hasDict]; exact g2, by rw [PyData.depth]; omega, by rw [PyData.leavesShort]; exact g4, by rw [PyData.weight]; omega⟩
theorem Shw.listM {α : Type} {n w m W : Nat} {f : α → PyData} {ys : List α} (h : ∀ y ∈ ys, Shw n w (f y)) (hl : ys.length ≤ m) (hW : m * (w + 1) ≤ W) : Shw (n + 1) W (.list (ys.map f)) :=
  .list (fun d hd => by obtain ⟨y, hy, rfl⟩ := List.mem_map.mp hd; exact h y hy) (by rw [List.length_map]; exact hl) hW
theorem all2 {α : Type} {P : α → Prop} {x y : α} (h1 : P x) (h2 : P y) : ∀ z ∈ [x, y], P z := fun z hz => by
  rcases List.mem_cons.mp hz with e | e
  · rw [e]; exact h1
  · rw [List.mem_singleton.mp e]; exact h2
theorem all3 {α : Type} {P : α → Prop} {x y u : α} (h1 : P x) (h2 : P y) (h3 : P u) : ∀ z ∈ [x, y, u], P z := fun z hz => by
  rcases List.mem_cons.mp hz with e | e
  · rw [e]; exact h1
  · exact all2 h2 h3 z e
theorem Shw.shown {w : Nat} {d : PyData} (h : Shw 8 w d) (hw : w ≤ 390000) : d.showable = true ∧ d.hasDict = false ∧ d.depth ≤ 8 ∧ d.shown.length ≤ sizeLine :=
  ⟨h.sh, h.nd, h.dp, by
    have z := PyData.shown_le 40 (by decide) d h.ls
    have := h.wt
    exact Nat.le_trans z (Nat.le_trans (show (40 + 2) * d.weight + 40 ≤ 16380040 by omega) (by decide))⟩

/-! ### comprehensions, by what they make -/
/-- a thing's truth, as a test -/
def tTru (K : PySem.W.Frag) (te : TE) : TT := fun σ H Q => te σ H fun x H' => ∃ k, TruV K x H' k ∧ Q k H'
abbrev LcW (J : It) (g : TG) (tt : TT) (te : TE) (vs : List Nat) (σ : L2.St) (D : Addr) (Qd : Hp → Prop) (H1 : Hp) : Prop := ∃ W : Nat → Nat → Hp → Prop, (∃ m, W 0 m (upd H1 D (.lst []))) ∧ ∀ i m H, W i m H →
  (J.stop i H ∧ Qd H) ∨ (J.go i H ∧ ∃ Nx : Hp → Prop, (∀ H', Nx H' → ∃ m', m' < m ∧ W (i + 1) m' H') ∧ ∀ x H', J.yld i H x H' → g x (wipe σ vs) H' fun σ2 H2 => wipe σ2 vs = wipe σ vs ∧ tt σ2 H2 fun b H3 => if b = true then
    te σ2 H3 fun y H4 => ∃ acc, H4 D = some (.lst acc) ∧ acc.length < sizeLine ∧ Nx (upd H4 D (.lst (acc ++ [y]))) else Nx H3)
/-- each item makes something new, all else stays -/
theorem lc_new {J : It} {n : Nat} {G : Hp → Prop} {Y : Nat → Hp → V → Hp → Prop} (w : Walk J n G Y) {g : TG} {tt : TT} {te : TE} {vs : List Nat} {σ : L2.St} {H1 : Hp} {D : Addr} {Qd : Hp → Prop} (ds : List PyData) (nD : H1 D = none) (hn : ds.length = n) (hz : n ≤ 1000) (hG : ∀ H, Same H1 H → G H)
    (turn : ∀ i x d H H' (Kt : V → Hp → Prop) (Kn : Hp → Prop), ds[i]? = some d → Same H1 H → Y i H x H' → (∀ y H4, Same H H4 → DatN (NewIn H) H4 y d → Kt y H4) → g x (wipe σ vs) H' fun σ2 H2 => wipe σ2 vs = wipe σ vs ∧ tt σ2 H2 fun b H3 => if b = true then te σ2 H3 Kt else Kn H3)
    (fin : ∀ H, Same H1 H → DatN (NewIn H1) H (.ref D) (.list ds) → Qd H) : LcW J g tt te vs σ D Qd H1 := by
  refine lc_it w (fun j H => Same H1 H ∧ ∃ ws, H D = some (.lst ws) ∧ EchN (fun a => H1 a = none ∧ a ≠ D) H ws (ds.take j)) ⟨same_upd nD, [], upd_same, .nil⟩ (fun i H _ p => hG H p.1) (fun i x H H' hi hP hy => ?_) (fun H hP => ?_)
  · obtain ⟨sm, ws, eD, hws⟩ := hP
    have hd : ds[i]? = some ds[i] := List.getElem?_eq_getElem (by omega)
    refine turn i x _ H H' _ _ hd sm hy fun y H4 s4 hd4 => ?_
    have eD4 := s4 _ _ eD
    have hl : ws.length ≤ 1000 := by
      rw [hws.1, List.length_take]
      omega
    have hl' : ws.length < 1000 := by
      rw [hws.1, List.length_take]
      omega
    refine ⟨ws, eD4, Nat.lt_of_lt_of_le hl' (by decide), fun b o e => ?_, ws ++ [y], upd_same, ?_⟩
    · rw [upd_ne (ne_of_none e nD)]
      exact s4 _ _ (sm b o e)
    · rw [List.take_add_one, hd]
      have k : Kps (fun a => H1 a = none ∧ a ≠ D) H4 (upd H4 D (.lst (ws ++ [y]))) := .upd eD4 fun a z => z.2
      refine ((hws.same s4).keep k).snoc (DatN.keep (hd4.weak fun a xs (z : H a = none) e => ⟨sm.free z, fun q => ?_⟩) k)
      rw [q, eD] at z
      cases z
  · obtain ⟨sm, ws, eD, hws⟩ := hP
    rw [List.take_of_length_le (by omega)] at hws
    exact fin H sm ((hws.weak fun a _ z _ => z.1).lst nD eD)
/-- each item makes something new by draws -/
theorem lc_draw {α : Type} (f : α → PyData) (R : Nat → α → Prop) (T : Int) {J : It} {n : Nat} {G : Hp → Prop} {Y : Nat → Hp → V → Hp → Prop} (w : Walk J n G Y) {g : TG} {tt : TT} {te : TE} {vs : List Nat} {σ : L2.St} {H1 : Hp} {D d c : Addr} {t1 : Int} {Qd : Hp → Prop} (S1 : StAt H1 d c t1) (nD : H1 D = none) (hz : n ≤ 1000) (hG : ∀ H, Kp d c H1 H → G H)
    (turn : ∀ i x H H' t (Kt : V → Hp → Prop) (Kn : Hp → Prop), i < n → t1 ≤ t → t ≤ t1 + T * (i : Int) → StAt H d c t → Kp d c H1 H → Y i H x H' → (∀ z y t' H4, R i z → DatN (NewIn H) H4 y (f z) → t ≤ t' → t' ≤ t + T → StAt H4 d c t' → Kp d c H H4 → Kt y H4) →
      g x (wipe σ vs) H' fun σ2 H2 => wipe σ2 vs = wipe σ vs ∧ tt σ2 H2 fun b H3 => if b = true then te σ2 H3 Kt else Kn H3)
    (fin : ∀ (H : Hp) (t : Int) (zs : List α), zs.length = n → (∀ (i : Nat) z, zs[i]? = some z → R i z) → t1 ≤ t → t ≤ t1 + T * (n : Int) → StAt H d c t → Kp d c H1 H → DatN (NewIn H1) H (.ref D) (.list (zs.map f)) → Qd H) : LcW J g tt te vs σ D Qd H1 := by
  have off := S1.off nD
  refine lc_it w (fun j H => ∃ (t : Int) (ws : List V) (zs : List α), H D = some (.lst ws) ∧ EchN (fun a => H1 a = none ∧ a ≠ D) H ws (zs.map f) ∧ zs.length = j ∧ (∀ (i : Nat) z, zs[i]? = some z → R i z) ∧ t1 ≤ t ∧ t ≤ t1 + T * (j : Int) ∧ StAt H d c t ∧ Kp d c H1 H)
    ⟨t1, [], [], upd_same, .nil, rfl, (fun _ _ e => nomatch e), Int.le_refl _, by omega, S1.same (same_upd nD), Kp.same d c (same_upd nD)⟩ (fun i H _ hP => ?_) (fun i x H H' hi hP hy => ?_) (fun H hP => ?_)
  · obtain ⟨_, _, _, _, _, _, _, _, _, _, k⟩ := hP
    exact hG H k
  · obtain ⟨t, ws, zs, eD, hws, hzl, hR, t0, t2, hS, k⟩ := hP
    refine turn i x H H' t _ _ hi t0 t2 hS k hy fun z y t' H4 hz' hd4 u0 u1 hS4 k4 => ?_
    have eD4 := k4 _ _ off.1 off.2 eD
    have hwl : ws.length = i := by rw [hws.1, List.length_map, hzl]
    have kk : Kps (fun a => H1 a = none ∧ a ≠ D) H4 (upd H4 D (.lst (ws ++ [y]))) := .upd eD4 fun a z => z.2
    have k1 : Kps (fun a => H1 a = none ∧ a ≠ D) H H4 := .kp k4 hS fun a z q => by
      obtain ⟨cs, ec, _⟩ := S1.cells
      rw [q, ec] at z
      exact nomatch z.1
    refine ⟨ws, eD4, Nat.lt_of_lt_of_le (show ws.length < 1000 by omega) (by decide), t', ws ++ [y], zs ++ [z], upd_same, ?_, by rw [List.length_append, hzl]; rfl, fun j q e => ?_, by omega, ?_, hS4.upd off.1 off.2, fun b o b1 b2 e => ?_⟩
    · rw [List.map_append]
      refine ((hws.keep k1).keep kk).snoc (DatN.keep (hd4.weak fun a xs (z : H a = none) e => ⟨?_, fun q => ?_⟩) kk)
      · cases e1 : H1 a with
        | none => rfl
        | some o =>
          by_cases z1 : a = d
          · rw [z1, hS.dict] at z; cases z
          · by_cases z2 : a = c
            · obtain ⟨cs, ec, _⟩ := hS.cells
              rw [z2, ec] at z; cases z
            · have := k a o z1 z2 e1
              rw [this] at z
              cases z
      · rw [q, eD] at z
        cases z
    · by_cases hj : j < zs.length
      · rw [List.getElem?_append_left hj] at e
        exact hR j q e
      · rw [List.getElem?_append_right (by omega)] at e
        have hj0 : j - zs.length < 1 := (List.getElem?_eq_some_iff.mp e).1
        have ej : j = i := by omega
        subst ej
        rw [hzl, Nat.sub_self] at e
        cases e
        exact hz'
    · have : T * ((i + 1 : Nat) : Int) = T * (i : Int) + T := by
        rw [Int.natCast_add, Int.mul_add]
        omega
      omega
    · rw [upd_ne (ne_of_none e nD)]
      exact k4 b o b1 b2 (k b o b1 b2 e)
  · obtain ⟨t, ws, zs, eD, hws, hzl, hR, t0, t2, hS, k⟩ := hP
    exact fin H t zs hzl hR t0 t2 hS k ((hws.weak fun a _ z _ => z.1).lst nD eD)
/-- those items of which this holds -/
theorem lc_keep {K : PySem.W.Frag} {a : Addr} {xs : List V} (pb : V → Bool) {g : TG} {tt : TT} {te : TE} {vs : List Nat} {σ : L2.St} {H1 : Hp} {D : Addr} {Qd : Hp → Prop} (nD : H1 D = none) (ea : H1 a = some (.lst xs)) (hz : xs.length ≤ 1000)
    (turn : ∀ (i : Nat) (x : V) (H : Hp) (Kt : V → Hp → Prop) (Kn : Hp → Prop), xs[i]? = some x → Same H1 H → (∀ H4, Same H H4 → pb x = true → Kt x H4) → (∀ H4, Same H H4 → pb x = false → Kn H4) → g x (wipe σ vs) H fun σ2 H2 => wipe σ2 vs = wipe σ vs ∧ tt σ2 H2 fun b H3 => if b = true then te σ2 H3 Kt else Kn H3)
    (fin : ∀ H, Same H1 H → H D = some (.lst (xs.filter pb)) → Qd H) : LcW (Itl K a) g tt te vs σ D Qd H1 := by
  refine lc_it walk_list (fun j H => Same H1 H ∧ H D = some (.lst ((xs.take j).filter pb))) ⟨same_upd nD, upd_same⟩ (fun i H _ p => SqL.of (p.1 _ _ ea)) (fun i x H H' hi hP hy => ?_) (fun H hP => ?_)
  · obtain ⟨sm, eD⟩ := hP
    obtain ⟨rfl, hx⟩ := hy
    have et : (xs.take (i + 1)).filter pb = (xs.take i).filter pb ++ (if pb x = true then [x] else []) := by
      rw [List.take_add_one, hx, List.filter_append]
      by_cases c : pb x = true
      · rw [if_pos c]
        show _ ++ List.filter pb [x] = _
        rw [List.filter_cons_of_pos c]
        rfl
      · rw [if_neg c]
        show _ ++ List.filter pb [x] = _
        rw [List.filter_cons_of_neg c]
        rfl
    have hl : ((xs.take i).filter pb).length ≤ i := Nat.le_trans (List.length_filter_le ..) (by rw [List.length_take]; omega)
    refine turn i x H' _ _ hx sm (fun H4 s4 c => ?_) (fun H4 s4 c => ?_)
    · refine ⟨_, s4 _ _ eD, Nat.lt_of_lt_of_le (show _ < 1000 by omega) (by decide), fun b o e => ?_, ?_⟩
      · rw [upd_ne (ne_of_none e nD)]
        exact s4 _ _ (sm b o e)
      · rw [upd_same, et, if_pos c]
    · refine ⟨sm.trans s4, ?_⟩
      rw [et, if_neg (by rw [c]; decide), List.append_nil]
      exact s4 _ _ eD
  · obtain ⟨sm, eD⟩ := hP
    rw [List.take_length] at eD
    exact fin H sm eD
theorem lc_new_seq {K : PySem.W.Frag} {a : Addr} {xs : List V} {g : TG} {tt : TT} {te : TE} {vs : List Nat} {σ : L2.St} {H1 : Hp} {Qd : Addr → Hp → Prop} (hq : SqH H1 a xs) (ds : List PyData) (hn : ds.length = xs.length) (hz : xs.length ≤ 1000)
    (turn : ∀ (i : Nat) (x : V) (d : PyData) (H : Hp) (Kt : V → Hp → Prop) (Kn : Hp → Prop), xs[i]? = some x → ds[i]? = some d → Same H1 H → (∀ y H4, Same H H4 → DatN (NewIn H) H4 y d → Kt y H4) → g x (wipe σ vs) H fun σ2 H2 => wipe σ2 vs = wipe σ vs ∧ tt σ2 H2 fun b H3 => if b = true then te σ2 H3 Kt else Kn H3)
    (fin : ∀ D H, H1 D = none → Same H1 H → DatN (NewIn H1) H (.ref D) (.list ds) → Qd D H) :
    ((∃ xs, SqL K H1 a xs) ∧ ∀ D, H1 D = none → LcR (Itl K a) g tt te vs σ D Qd H1) ∨ ((∃ xs, SqT K H1 a xs) ∧ ∀ D, H1 D = none → LcR (Itt K a) g tt te vs σ D Qd H1) := by
  rcases hq with h | h
  · exact .inl ⟨⟨xs, SqL.of h⟩, fun D nD => lc_new (walk_list (xs := xs)) ds nD hn hz (fun H s => SqL.of (s _ _ h)) (fun i x d H H' Kt Kn hd sm hy k => by obtain ⟨rfl, hx⟩ := hy; exact turn i x d H' Kt Kn hx hd sm k) (fun H s d => fin D H nD s d)⟩
  · exact .inr ⟨⟨xs, .inl (.inl h)⟩, fun D nD => lc_new (walk_tup (xs := xs)) ds nD hn hz (fun H s => .inl (.inl (s _ _ h))) (fun i x d H H' Kt Kn hd sm hy k => by obtain ⟨rfl, hx⟩ := hy; exact turn i x d H' Kt Kn hx hd sm k) (fun H s d => fin D H nD s d)⟩
theorem lc_new_list {K : PySem.W.Frag} {a : Addr} {xs : List V} {g : TG} {tt : TT} {te : TE} {vs : List Nat} {σ : L2.St} {H1 : Hp} {D : Addr} {Qd : Hp → Prop} (nD : H1 D = none) (hq : H1 a = some (.lst xs)) (ds : List PyData) (hn : ds.length = xs.length) (hz : xs.length ≤ 1000)
    (turn : ∀ (i : Nat) (x : V) (d : PyData) (H : Hp) (Kt : V → Hp → Prop) (Kn : Hp → Prop), xs[i]? = some x → ds[i]? = some d → Same H1 H → (∀ y H4, Same H H4 → DatN (NewIn H) H4 y d → Kt y H4) → g x (wipe σ vs) H fun σ2 H2 => wipe σ2 vs = wipe σ vs ∧ tt σ2 H2 fun b H3 => if b = true then te σ2 H3 Kt else Kn H3)
    (fin : ∀ H, Same H1 H → DatN (NewIn H1) H (.ref D) (.list ds) → Qd H) : LcW (Itl K a) g tt te vs σ D Qd H1 :=
  lc_new (walk_list (xs := xs)) ds nD hn hz (fun H s => SqL.of (s _ _ hq)) (fun i x d H H' Kt Kn hd sm hy k => by obtain ⟨rfl, hx⟩ := hy; exact turn i x d H' Kt Kn hx hd sm k) fin

/-! ### numbers within their bounds; texts as lists of signs -/
theorem mulw {i j : Int} (hi : i.natAbs < 2 ^ 250) (hj : j.natAbs < 2 ^ 250) : CMulW i j := wide_mul hi hj (by decide) (by decide) (by decide)
theorem divw {i j : Int} (h : 0 < j) (hj : j.natAbs < 2 ^ 250) : CDivW i j := wide_div h hj (by decide) (by decide)
theorem S_of (z : Str) : z = SX.S z.cps.toList := (SX.S_tl z).symm
theorem S_cps (a : List Nat) : (SX.S a).cps.toList = a := by simp [SX.S]
theorem cutS_take (a : List Nat) (k : Nat) : cutS (SX.S a) none (some (k : Int)) = SX.S (a.take k) := by
  unfold cutS
  rw [HT.sIx_none, HT.sIx_nat, SX.S_len, S_cps, List.drop_zero, Nat.sub_zero]
  by_cases h : k ≤ a.length
  · rw [Nat.min_eq_left h]
  · rw [Nat.min_eq_right (by omega), List.take_of_length_le (Nat.le_refl _), List.take_of_length_le (by omega)]
theorem cutS_drop (a : List Nat) (k : Nat) : cutS (SX.S a) (some (k : Int)) none = SX.S (a.drop k) := by
  unfold cutS
  rw [HT.sIx_none, HT.sIx_nat, SX.S_len, S_cps]
  by_cases h : k ≤ a.length
  · rw [Nat.min_eq_left h, List.take_of_length_le (by rw [List.length_drop]; omega)]
  · rw [Nat.min_eq_right (by omega), List.drop_eq_nil_of_le (Nat.le_refl _), List.drop_eq_nil_of_le (by omega), List.take_nil]
theorem cutS_mid (a : List Nat) (i j : Nat) : cutS (SX.S a) (some (i : Int)) (some (j : Int)) = SX.S ((a.drop i).take (j - i)) := by
  unfold cutS
  rw [HT.sIx_nat, HT.sIx_nat, SX.S_len, S_cps]
  by_cases h : i ≤ a.length
  · rw [Nat.min_eq_left h]
    by_cases h2 : j ≤ a.length
    · rw [Nat.min_eq_left h2]
    · rw [Nat.min_eq_right (by omega), List.take_of_length_le (by rw [List.length_drop]; omega), List.take_of_length_le (by rw [List.length_drop]; omega)]
  · rw [Nat.min_eq_right (by omega : a.length ≤ i), List.drop_eq_nil_of_le (Nat.le_refl _), List.drop_eq_nil_of_le (by omega), List.take_nil, List.take_nil]
/-- the sign at a place within -/
theorem sign_at {a : List Nat} {j : Nat} (h : j < a.length) : atI (SX.S a).cps.toList (j : Int) = some a[j] := by
  rw [S_cps]
  exact atI_nat (List.getElem?_eq_getElem h)
theorem S_le {a : List Nat} (h : a.length ≤ 10000) : (SX.S a).length ≤ sizeLine := by rw [SX.S_len]; exact Nat.le_trans h (by decide)
theorem strOk_S {a : List Nat} (h : ∀ c ∈ a, c < 1114112) : PyData.strOk (SX.S a) = true := by
  show (Array.all _ _) = true
  rw [Array.all_eq_true']
  intro c hc
  exact decide_eq_true (h c (by simpa using hc))
theorem join_signs (cs : List Nat) : Txt.join "" (cs.map sgS) = SX.S cs := by
  have z := SX.join_S [] (cs.map fun c => [c])
  rw [joinL_ones, List.map_map] at z
  exact z
theorem join_fits {cs : List Nat} (h : cs.length ≤ 10000) : ((cs.map sgS).map (·.length)).sum + (cs.map sgS).length * ("" : Str).length ≤ 16777216 := by
  have e : ∀ cs : List Nat, ((cs.map sgS).map (·.length)).sum = cs.length := fun cs => by
    induction cs with
    | nil => rfl
    | cons c r ih =>
      rw [List.map_cons, List.map_cons, List.sum_cons, ih, List.length_cons]
      show 1 + r.length = r.length + 1
      omega
  rw [e, show ("" : Str).length = 0 from rfl, Nat.mul_zero]
  omega

/-! ### sorted(set(xs)) of a list of whole numbers, however many -/
section
variable {P : Program} {w : World} {A : Around} {E : Value → Shared → Prop} {s : Shared}
/-- a new, empty set's object -/
abbrev set0 (w : World) : Obj := { cls := .type "set", dict := none, data := .set #[] 0 (.fresh 0 0 (!w.params.followText "set-order")) }
set_option maxRecDepth 100000 in
set_option maxHeartbeats 3200000 in
theorem set_from_list {from_ : Addr} {vs : Array Value} (nums : List Int) {Qv : Value → Shared → Prop} (calm : A.handled = none) (isl : s.heap.IsList from_ vs) (isN : IntsAre vs.toList nums) (few : nums.length + 1 < scanBound)
    (end_ : ∀ (hp' : Heap) (tk c : Nat), SetR w hp' s.heap.objs.size (fun j => decide (j ∈ nums)) c → c ≤ nums.length → (∀ b o, s.heap.get? b = some o → hp'.get? b = some o) → Qv (.ref s.heap.objs.size) { s with heap := hp', toks := tk }) :
    wpAny (model P w) A (call (.type "set") [.ref from_]) Qv E s := by
  have size_is : vs.size = nums.length := by
    rw [← Array.length_toList]
    exact IntsAre.length isN
  obtain ⟨c0, tl0, mro0⟩ := F.called_set.mro
  have made0 := F.called_set.made
  have sub0 := F.called_set.sub
  refine wpAny_call (codeAny_of_tree ?_)
  show wpAny _ _ (callAny (.type "set") _) _ _ _
  refine wpAny_pure ⟨Code.quiet_builtin _ (by decide +kernel), codeAny_builtin F.entry_type_call ?_⟩ -- the type is called
  rw [Around.under_plain (weight_type_call_type "set" [.ref from_] []) rfl]
  have no_type := F.called_set.notType
  have can_make := F.called_set.canCreate
  have checked := F.typeCall_set_1 (.ref from_)
  repeat (any_goals (first | assumption | wp_step | fail))
  refine codeAny_mono (code_set_led1 (.ref from_) (E := E) (Q₁ := fun made st => made = .ref s.heap.objs.size ∧ st = { s with heap := s.heap.push (set0 w) }) ⟨rfl, rfl⟩) fun r1 st1 told => ?_
  cases r1 with
  | error e => exact told
  | ok fl =>
    cases fl with
    | ret made =>
      obtain ⟨rfl, rfl⟩ := told
      have here : (s.heap.push (set0 w)).get? s.heap.objs.size = some (set0 w) := Heap.get?_push_size _ rfl
      have isS : Shared.TypeIs { s with heap := s.heap.push (set0 w) } (.ref s.heap.objs.size) "set" := ⟨_, here, rfl⟩
      have look := F.called_set.init.lookup
      have bnd := F.called_set.init.bind (.ref s.heap.objs.size)
      repeat (any_goals (first | assumption | wp_step | fail))
      refine codeAny_mono (codeAny_call_builtin (R := wants (fun r st => r = .none ∧ ∃ hp' tk c, st = { s with heap := hp', toks := tk } ∧ SetR w hp' s.heap.objs.size (fun j => decide (j ∈ nums)) c ∧ c ≤ nums.length ∧ (∀ b o, s.heap.get? b = some o → hp'.get? b = some o)) E) F.called_set.init.plain F.entry_set_init (check_set_init_1 isS ?_)) fun r2 st2 told2 => ?_
      · obtain ⟨ol, got, clsl, nl, datal⟩ := isl
        obtain ⟨ocls, odict, odata, oslots⟩ := ol
        simp only at clsl datal
        subst clsl; subst datal
        have got' : (s.heap.push (set0 w)).get? from_ = some { cls := .type "list", dict := odict, data := .seq vs nl, slots := oslots } := Heap.get?_push_of_some _ got
        have sub1 := F.sub_list_set
        have sub2 := F.sub_list_frozenset
        have no_dict : (Value.type "list" == Value.type "dict") = false := by decide
        have isl1 : (s.heap.push (set0 w)).IsList from_ vs := ⟨_, got', rfl, nl, rfl⟩
        unfold Builtin.«set.__init__» noKeywords Builtin.Frozenset.updateFrom -- its init
        generalize keepP : pyIter = PI
        wp_walk
        subst keepP
        refine wpAny_pyIter_list isl1 (wpAny_bind (wpAny_runValue ?_))
        have lt0 : from_ < s.heap.objs.size := Heap.lt_size got
        have calm3 : A.in1.in1.in1.handled = none := by simp [calm]
        have ne1 : from_ ≠ (s.heap.push (set0 w)).objs.size := by
          rw [Heap.size_push]
          exact Nat.ne_of_lt (Nat.lt_succ_of_lt lt0)
        have apart : s.heap.objs.size ∉ [(s.heap.push (set0 w)).objs.size, from_] := by
          rw [Heap.size_push]
          simp only [List.mem_cons, List.mem_singleton, List.not_mem_nil, or_false, not_or] -- both
          exact ⟨Nat.ne_of_lt (Nat.lt_succ_self _), Nat.ne_of_gt lt0⟩
        have vals : ∀ (i : Nat) (v : Value), vs[i]? = some v → ∃ k t, nums[i]? = some k ∧ v = .int k t := fun i v at_ => by
          have lt : i < nums.length := by
            rw [← size_is]
            exact (Array.getElem?_eq_some_iff.mp at_).1
          obtain ⟨t, e⟩ := PyProof.Rows.IntsAre.int_at isN i v (by rw [Array.getElem?_toList]; exact at_)
          refine ⟨nums[i], t, List.getElem?_eq_getElem lt, ?_⟩
          rw [e, List.getD_eq_getElem?_getD, List.getElem?_eq_getElem lt]
          rfl
        refine set_update_ints ((Walks.list calm3 _ from_ ne1 vs).toS) s.heap.objs.size apart nums size_is few vals (vs.size - 0) 0 _ (by omega) (Nat.zero_le _) ⟨⟨_, Heap.get?_push_size _ rfl, rfl, rfl⟩, (isl1.push _)⟩ ⟨0, Nat.le_refl 0, setR_new_at (Heap.get?_push_of_some _ here)⟩ ?_
        intro st3 c3 moved le3 set3
        obtain ⟨hp3, g3, d3, tk3, os3⟩ := st3
        obtain rfl : g3 = s.gens := moved.gens
        obtain rfl : d3 = s.drawn := moved.drawn
        obtain rfl : os3 = s.os := moved.os
        show wpAny _ _ _ _ _ _
        refine wpAny_pure ?_
        show wpAny _ _ (ret Value.none) _ _ _
        rw [size_is] at le3
        refine wpAny_pure ⟨rfl, hp3, tk3, c3, rfl, set3, le3, fun b o e => ?_⟩
        have lt1 : b < s.heap.objs.size := Heap.lt_size e
        refine moved.heap b o (fun z => ?_) (Heap.get?_push_of_some _ (Heap.get?_push_of_some _ e))
        rcases List.mem_cons.mp z with z | z
        · exact absurd z (Nat.ne_of_lt lt1)
        · have z' := List.mem_singleton.mp z
          rw [Heap.size_push] at z'
          exact absurd z' (Nat.ne_of_lt (Nat.lt_succ_of_lt lt1))
      · cases r2 with
        | error e => exact told2
        | ok fl2 =>
          cases fl2 with
          | ret r =>
            obtain ⟨rfl, hp', tk, c', rfl, z1, z2, z3⟩ := told2
            repeat (any_goals (first | assumption | wp_step | fail))
            exact end_ _ _ _ z1 z2 z3
          | _ => exact told2.elim
    | _ => exact told.elim
/-- sorted of a set of whole numbers -/
theorem sorted_of_set {a : Addr} {S : Int → Bool} {n : Nat} {Qv : Value → Shared → Prop} (R : SetR w s.heap a S n) (calm : A.handled = none)
    (end_ : ∀ st p (out : Array Value) (c : Nat) (ns : List Int), (∀ b o, s.heap.get? b = some o → st.heap.get? b = some o) → st.gens = s.gens → st.os = s.os → s.heap.objs.size ≤ p → st.heap.get? p = some (seqObj "list" out c) → IntsAre out.toList ns → ns.Pairwise (· < ·) → (∀ k, k ∈ ns ↔ S k = true) → ns.length = n → Qv (.ref p) st) :
    wpAny (model P w) A (call (.builtin "sorted") [.ref a]) Qv E s := by
  obtain ⟨o, es, ep, t, ho, hex, hd, g, nd, hm, hb, hf, hn, hr, hl⟩ := R -- what a set's object is
  refine Calls.call_function_entry kind_sorted plain_sorted entry_sorted (args_sorted1 _) ?_ -- called
  unfold Builtin.«sorted»
  refine wpAny_bind (m := checkCount "sorted" 1 1 _) (wpAny_pure (wpAny_bind (collect_set (A := A.in1) calm ⟨o, ho, hex.1, hd⟩ hf hb hr hl fun s1 vs k1 hz g1 o1 pm => ?_)))
  have long : vs.length ≤ sizeLine := by
    rw [pm.length_eq, List.length_map, Array.length_toList]
    exact fits_of_scanBound hb
  have isI := ints_of vs fun v hv => by
    obtain ⟨e, he, q⟩ := List.mem_map.mp (pm.mem_iff.mp hv)
    obtain ⟨k, tk, h1, _⟩ := g e he
    exact ⟨k, tk, by rw [← q]; exact h1⟩
  have keys : (vs.map Builtin.Re.reRawOf).Perm (es.toList.map keyOf) := by
    have q := pm.map Builtin.Re.reRawOf
    rwa [List.map_map] at q
  refine wpAny_bind (wpAny_newList ?_ long)
  have new1 : (s1.heap.push (seqObj "list" vs.toArray 0)).get? s1.heap.objs.size = some (seqObj "list" vs.toArray 0) := Heap.get?_push_size _ rfl
  refine wpAny_bind (wpAny_holding (wpAny_call_entry slot_list_sort ⟨_, new1, rfl⟩ entry_list_sort (SrtO.list_sort_ord SrtO.swo_int new1 long (fun two => SrtO.ints_sortable isI two) fun out w1 w2 => ⟨_, rfl, ?_⟩) (args_list_sort _)))
  obtain ⟨i1, i2, i3⟩ := SrtO.ints_out isI w1 w2
  obtain ⟨c, hc⟩ := sortedHeap_at (vs := vs) (out := out.toArray) new1
  have pn := i2.trans keys
  refine wpAny_pure ⟨_, rfl, end_ _ s1.heap.objs.size out.toArray c _ (fun b u e => ?_) g1 o1 hz hc i1 (lt_of_le_nodup _ i3 (pn.nodup_iff.mpr nd)) (fun k => by rw [pn.mem_iff, ← hm k]) (by rw [pn.length_eq, List.length_map, Array.length_toList]; exact hn)⟩
  have q := k1 b u e
  have lt := Heap.lt_size q
  show (sortedHeap (s1.heap.push (seqObj "list" vs.toArray 0)) s1.heap.objs.size vs out.toArray).get? b = some u
  rw [sortedHeap_old (Nat.ne_of_lt lt) (by rw [size_push']; exact Nat.lt_succ_of_lt lt)]
  exact Heap.get?_push_of_some _ q
end
/-- sorted(set(xs)) -/
def tSortedSet (K : PySem.W.Frag) (ta : TE) : TE := fun σ H Q => ta σ H fun x H1 => ∃ (l : Addr) (ns : List Int), x = .ref l ∧ SqL K H1 l (ns.map V.int) ∧ ns.length ≤ 4000 ∧ ∀ (ms : List Int) (p : Addr), ms.Pairwise (· < ·) → (∀ k, k ∈ ms ↔ k ∈ ns) → H1 p = none → Q (.ref p) (upd H1 p (.lst (ms.map V.int)))
theorem pe_sortedSet {X : Cx} {a : Expr} {ta : TE} {p p2 q pos : Pos} (hg : Gl X "sorted") (hm : X.mg "sorted" = none) (hg2 : Gl X "set") (hm2 : X.mg "set" = none) (ha : PE X a ta) (hc : X.calm = true := by rfl)
    (na : starEach [a] X.env = (false, eval a X.env) :: starEach [] X.env := by rfl) : PE X (.Call (.Name "sorted" p) [.Call (.Name "set" p2) [a] [] q] [] pos) (tSortedSet X.K ta) := by
  refine ⟨fun pins s σ H Q I h => Call_ (ld_blt I hg hm boot_sorted ?_)⟩
  refine PyProof.Rows.callWith_builtin1 (PyProof.Rows.args_cons (Call_ (ld_blt I hg2 hm2 boot_set ?_)) rfl) rfl rfl
  refine PyProof.Rows.callWith_type1 (PyProof.Rows.args_cons (thn (ha.run pins s σ H _ I h) fun v s1 ⟨x, H1, I1, r1, q1⟩ => PyProof.Rows.args_nil ?_) na) na rfl -- set(..)
  obtain ⟨l, ns, rfl, sq, few, q1⟩ := q1
  cases r1
  obtain ⟨its, r, pl, hz⟩ := I1.list sq
  refine set_from_list ns (I1.ok.hd hc) pl.isList (by simpa using RZ.intsAre_vals r) (by unfold scanBound; omega) fun hp' tk c hS le kept => PyProof.Rows.args_nil ?_
  have I2 : Inv X pins σ H1 { s1 with heap := hp', toks := tk } := I1.kept kept
  refine sorted_of_set (s := { s1 with heap := hp', toks := tk }) hS (I1.ok.hd hc) fun st p out c' ms k g o hp hg' isI up mem cnt => ?_
  have len : (ms.map V.int).length ≤ sizeLine := by
    rw [List.length_map, sizeLine_eq]
    omega
  have new : H1 p = none := I2.hok.fresh hp
  have J : Inv X pins σ (upd H1 p (.lst (ms.map V.int))) { ({ s1 with heap := hp', toks := tk } : Shared) with heap := st.heap, gens := st.gens, drawn := st.drawn, toks := st.toks } :=
    I2.call (ch := []) (Un.laid k hp new) (I2.hok.laid k hp ⟨len, out.toList, c', vals_of_ints isI, hg'⟩) (by rw [g]; exact I2.bare) (fun _ z => nomatch z)
  have e : st = { s1 with heap := st.heap, gens := st.gens, drawn := st.drawn, toks := st.toks } := by
    cases st
    cases s1
    cases o
    rfl
  rw [e]
  exact ⟨.ref p, _, J, rfl, q1 ms p up (fun k => ⟨fun z => of_decide_eq_true ((mem k).mp z), fun z => (mem k).mpr (decide_eq_true z)⟩) new⟩

/-! ### len(set(text)) -/
/-- how many unlike ones -/
def dst : List Nat → Nat
  | [] => 0
  | c :: r => if c ∈ r then dst r else dst r + 1
theorem dst_le : ∀ l : List Nat, dst l ≤ l.length
  | [] => Nat.le_refl _
  | c :: r => by
    have := dst_le r
    unfold dst
    split <;> simp <;> omega
theorem dst_nodup : ∀ l : List Nat, dst l = l.length ↔ l.Nodup
  | [] => by simp [dst]
  | c :: r => by
    have h := dst_nodup r
    have h2 := dst_le r
    unfold dst
    rw [List.nodup_cons]
    split
    · rename_i hc
      simp only [List.length_cons]
      constructor
      · intro z; omega
      · intro z; exact absurd hc z.1
    · rename_i hc
      simp only [List.length_cons]
      constructor
      · intro z; exact ⟨hc, h.mp (by omega)⟩
      · intro z; rw [h.mpr z.2]
theorem dst_is : ∀ (l ds : List Nat), ds.Nodup → (∀ k, k ∈ ds ↔ k ∈ l) → ds.length = dst l
  | [], ds, _, hm => by
    cases ds with
    | nil => rfl
    | cons d r => exact absurd ((hm d).mp (List.mem_cons_self ..)) (List.not_mem_nil)
  | c :: r, ds, nd, hm => by
    unfold dst
    split
    · rename_i hc
      exact dst_is r ds nd fun k => by
        rw [hm k, List.mem_cons]
        exact ⟨fun z => z.elim (fun e => e ▸ hc) id, .inr⟩
    · rename_i hc
      have hin : c ∈ ds := (hm c).mpr (List.mem_cons_self ..)
      have q := dst_is r (ds.erase c) (nd.erase c) fun k => by
        rw [nd.mem_erase_iff, hm k, List.mem_cons]
        constructor
        · rintro ⟨z1, z2 | z2⟩
          · exact absurd z2 z1
          · exact z2
        · intro z
          exact ⟨fun e => hc (e ▸ z), .inr z⟩
      rw [List.length_erase_of_mem hin] at q
      have : 0 < ds.length := List.length_pos_of_mem hin
      omega
section
variable {P : Program} {w : World} {A : Around} {E : Value → Shared → Prop} {s : Shared}
/-- the keys of signs -/
abbrev kSg (c : Nat) : Key := .inr ⟨#[c]⟩
/-- the signs so far make the set -/
def SgSet (P : Program) (w : World) (h : Heap) (S : Addr) (l : List Nat) : Prop := ∃ (F : Key → Bool) (ds : List Nat), h.SetOf (mixKind P w) S F ds.length ∧ ds.Nodup ∧ (∀ k, k ∈ ds ↔ k ∈ l) ∧ ∀ c, F (kSg c) = true ↔ c ∈ l
theorem SgSet.keeps {h h' : Heap} {S : Addr} {l : List Nat} (z : SgSet P w h S l) (k : ∀ o, h.get? S = some o → h'.get? S = some o) : SgSet P w h' S l :=
  let ⟨F, ds, z1, z2⟩ := z; ⟨F, ds, setOf_at z1 k, z2⟩
theorem update_signs {it : Addr} {foot writes : List Addr} {Gens : Array GenState → Array GenState → Prop} {n : Nat} {Item : Nat → Value → Prop} {At : Nat → Shared → Prop} {R : Result → Shared → Prop}
    (W : WalksS P w A.in1 it foot writes Gens n Item At) (S : Addr) (off : S ∉ foot) (cs : List Nat) (hn : n = cs.length) (few : cs.length + 1 < scanBound) (isS : ∀ i v, Item i v → ∃ c t, cs[i]? = some c ∧ v = .str ⟨#[c]⟩ t) :
    ∀ (left i : Nat) (s : Shared), n - i = left → i ≤ n → At i s → SgSet P w s.heap S (cs.take i) →
      (∀ s', Moved (S :: writes) Gens s s' → SgSet P w s'.heap S cs → R (.ok (.ret .none)) s') →
      codeAny (model P w) A (.builtin "set.update.loop" ⟨[.ref S, .ref it], []⟩) R s := by
  have offW : S ∉ writes := fun z => off (W.sub _ z)
  have more : ∀ b ∈ writes, b ∈ S :: writes := fun b z => List.mem_cons_of_mem _ z
  intro left
  induction left with
  | zero =>
    intro i s hl hi at_ hS fin
    obtain rfl : i = n := by omega
    refine codeAny_builtin F.entry_set_update_loop ?_
    rw [Around.under_plainId F.plain_set_update_loop _]
    refine wpAny_bind (m := pyNext (.ref it)) (W.done s _ _ at_ fun s' mv => ?_)
    rw [List.take_of_length_le (by omega)] at hS
    exact wpAny_pure (fin s' (mv.mono more) (hS.keeps fun o e => mv.heap S o offW e))
  | succ left ih =>
    intro i s hl hi at_ hS fin
    have lt : i < n := by omega
    refine codeAny_builtin F.entry_set_update_loop ?_
    rw [Around.under_plainId F.plain_set_update_loop _]
    refine wpAny_bind (m := pyNext (.ref it)) (W.item i s _ _ lt at_ fun v s' hv at' mv => ?_)
    obtain ⟨c, t, hc, rfl⟩ := isS i v hv
    obtain ⟨Fs, ds, hS2, nd, hds, hF⟩ := hS.keeps (h' := s'.heap) fun o e => mv.heap S o offW e
    show wpAny _ A.in1 (holding [Value.str ⟨#[c]⟩ t] (setAdd S (.str ⟨#[c]⟩ t)) >>= _) _ _ s'
    refine wpAny_bind (wpAny_holding ?_)
    unfold setAdd
    refine wpAny_holding ?_
    have key : (mixKind P w).is (kSg c) (.str ⟨#[c]⟩ t) = true := kV_is (k := kSg c) ⟨t, rfl⟩
    have small : ds.length ≤ cs.length := by
      have q := dst_is _ ds nd hds
      have q2 := dst_le (cs.take i)
      rw [List.length_take] at q2
      omega
    refine wpAny_bind ((mixKind P w).pyHash key ?_)
    refine wpAny_setAddHashed_of (s := { s' with toks := s'.toks + 1 }) key rfl hS2 (by omega) fun h' sb hS3 => ?_
    have hS4 : SgSet P w h' S (cs.take (i + 1)) := by
      have mem : ∀ k, k ∈ cs.take (i + 1) ↔ k ∈ cs.take i ∨ k = c := fun k => by
        rw [List.take_add_one, hc]
        simp [List.mem_append]
      have inj : ∀ k, (kSg k = kSg c) ↔ k = c := fun k => ⟨fun z => by have := Sum.inr.inj z; simpa using this, fun z => by rw [z]⟩
      by_cases hin : c ∈ cs.take i
      · rw [if_pos ((hF c).mpr hin)] at hS3
        refine ⟨_, ds, hS3, nd, fun k => ?_, fun k => ?_⟩
        · rw [hds k, mem k]
          exact ⟨.inl, fun z => z.elim id fun e => e ▸ hin⟩
        · rw [mem k, Bool.or_eq_true, hF k, decide_eq_true_iff, inj]
      · rw [if_neg (fun z => hin ((hF c).mp z))] at hS3
        refine ⟨_, c :: ds, hS3, List.nodup_cons.mpr ⟨fun z => hin ((hds c).mp z), nd⟩, fun k => ?_, fun k => ?_⟩
        · rw [List.mem_cons, hds k, mem k]
          exact ⟨fun z => z.elim .inr .inl, fun z => z.elim .inr .inl⟩
        · rw [mem k, Bool.or_eq_true, hF k, decide_eq_true_iff, inj]
    refine wpAny_pure ⟨plainId_quiet F.plain_set_update_loop _, ih (i + 1) _ (by omega) lt (W.frame _ s' _ _ at' (Nat.le_succ _) fun b hb o e => ?_) hS4 fun s'' mv2 z => ?_⟩
    · rw [sb.2 b (fun z : b = S => off (z ▸ hb))]; exact e
    · refine fin s'' (Moved.trans W.gtrans ((mv.mono more).then_heap (Nat.le_succ _) fun b o hb e => ?_) mv2) z
      rw [sb.2 b (fun z : b = S => hb (z ▸ List.mem_cons_self))]; exact e
set_option maxRecDepth 100000 in
set_option maxHeartbeats 3200000 in
theorem set_from_text {x : Str} {t : Tok} {Qv : Value → Shared → Prop} (calm : A.handled = none) (few : x.cps.toList.length + 1 < scanBound)
    (end_ : ∀ (hp' : Heap) (tk : Nat), SgSet P w hp' s.heap.objs.size x.cps.toList → (∀ b o, s.heap.get? b = some o → hp'.get? b = some o) → Qv (.ref s.heap.objs.size) { s with heap := hp', toks := tk }) :
    wpAny (model P w) A (call (.type "set") [.str x t]) Qv E s := by
  obtain ⟨c0, tl0, mro0⟩ := F.called_set.mro
  have made0 := F.called_set.made
  have sub0 := F.called_set.sub
  refine wpAny_call (codeAny_of_tree ?_)
  show wpAny _ _ (callAny (.type "set") _) _ _ _
  refine wpAny_pure ⟨Code.quiet_builtin _ (by decide +kernel), codeAny_builtin F.entry_type_call ?_⟩ -- its type is called
  rw [Around.under_plain (weight_type_call_type "set" [.str x t] []) rfl]
  have no_type := F.called_set.notType
  have can_make := F.called_set.canCreate
  have checked := F.typeCall_set_1 (.str x t)
  repeat (any_goals (first | assumption | wp_step | fail))
  refine codeAny_mono (code_set_led1 (.str x t) (E := E) (Q₁ := fun made st => made = .ref s.heap.objs.size ∧ st = { s with heap := s.heap.push (set0 w) }) ⟨rfl, rfl⟩) fun r1 st1 told => ?_
  cases r1 with
  | error e => exact told
  | ok fl =>
    cases fl with
    | ret made =>
      obtain ⟨rfl, rfl⟩ := told
      have here : (s.heap.push (set0 w)).get? s.heap.objs.size = some (set0 w) := Heap.get?_push_size _ rfl
      have isS : Shared.TypeIs { s with heap := s.heap.push (set0 w) } (.ref s.heap.objs.size) "set" := ⟨_, here, rfl⟩
      have look := F.called_set.init.lookup
      have bnd := F.called_set.init.bind (.ref s.heap.objs.size)
      repeat (any_goals (first | assumption | wp_step | fail))
      refine codeAny_mono (codeAny_call_builtin (R := wants (fun r st => r = .none ∧ ∃ hp' tk, st = { s with heap := hp', toks := tk } ∧ SgSet P w hp' s.heap.objs.size x.cps.toList ∧ (∀ b o, s.heap.get? b = some o → hp'.get? b = some o)) E) F.called_set.init.plain F.entry_set_init (check_set_init_1 isS ?_)) fun r2 st2 told2 => ?_
      · have sub1 := F.sub_str_set
        have sub2 := F.sub_str_frozenset
        have no_dict : (Value.type "str" == Value.type "dict") = false := by decide
        unfold Builtin.«set.__init__» noKeywords Builtin.Frozenset.updateFrom -- its own init
        generalize keepP : pyIter = PI
        wp_walk
        subst keepP
        refine wpAny_pyIter_str fun o At W at0 => wpAny_bind (wpAny_runValue ?_)
        have calm3 : A.in1.in1.in1.handled = none := by simp [calm]
        have apart : s.heap.objs.size ∉ [(s.heap.push (set0 w)).objs.size] := by
          rw [Heap.size_push]
          intro z
          exact Nat.ne_of_lt (Nat.lt_succ_self _) (List.mem_singleton.mp z)
        have empty : SgSet P w ((s.heap.push (set0 w)).push o) s.heap.objs.size (x.cps.toList.take 0) :=
          ⟨fun _ => false, [], ⟨_, #[], 0, _, Heap.get?_push_of_some _ here, ⟨rfl, rfl, rfl⟩, rfl, (fun e he => by simp at he), (fun k => by simp), (by decide), (by rfl), rfl⟩, List.nodup_nil, fun k => by simp, fun c => by simp⟩
        refine update_signs ((W _ calm3).toS) s.heap.objs.size apart x.cps.toList (by simp) few (fun i v hv => ?_) (x.cps.size - 0) 0 _ rfl (Nat.zero_le _) at0 empty ?_
        · obtain ⟨c, u, e, rfl⟩ := hv
          exact ⟨c, u, by rw [Array.getElem?_toList]; exact e, rfl⟩
        intro st3 moved set3
        obtain ⟨hp3, g3, d3, tk3, os3⟩ := st3
        obtain rfl : g3 = s.gens := moved.gens
        obtain rfl : d3 = s.drawn := moved.drawn
        obtain rfl : os3 = s.os := moved.os
        show wpAny _ _ _ _ _ _
        refine wpAny_pure ?_
        show wpAny _ _ (ret Value.none) _ _ _
        refine wpAny_pure ⟨rfl, hp3, tk3, rfl, set3, fun b o e => ?_⟩
        have lt1 : b < s.heap.objs.size := Heap.lt_size e
        refine moved.heap b o (fun z => ?_) (Heap.get?_push_of_some _ (Heap.get?_push_of_some _ e))
        rcases List.mem_cons.mp z with z | z
        · exact absurd z (Nat.ne_of_lt lt1)
        · have z' := List.mem_singleton.mp z
          rw [Heap.size_push] at z'
          exact absurd z' (Nat.ne_of_lt (Nat.lt_succ_of_lt lt1))
      · cases r2 with
        | error e => exact told2
        | ok fl2 =>
          cases fl2 with
          | ret r =>
            obtain ⟨rfl, hp', tk, rfl, z1, z2⟩ := told2
            repeat (any_goals (first | assumption | wp_step | fail))
            exact end_ _ _ z1 z2
          | _ => exact told2.elim
    | _ => exact told.elim
end
def tLenSigns (ta : TE) : TE := fun σ H Q => ta σ H fun x H1 => ∃ l : List Nat, x = .str (SX.S l) ∧ l.length ≤ 1000 ∧ Q (.int (dst l)) H1
theorem pe_lenSigns {X : Cx} {a : Expr} {ta : TE} {p p2 q pos : Pos} (hg : Gl X "len") (hm : X.mg "len" = none) (hg2 : Gl X "set") (hm2 : X.mg "set" = none) (ha : PE X a ta) (hc : X.calm = true := by rfl)
    (na : starEach [a] X.env = (false, eval a X.env) :: starEach [] X.env := by rfl) : PE X (.Call (.Name "len" p) [.Call (.Name "set" p2) [a] [] q] [] pos) (tLenSigns ta) := by
  refine ⟨fun pins s σ H Q I h => Call_ (ld_blt I hg hm boot_len ?_)⟩
  refine PyProof.Rows.callWith_builtin1 (PyProof.Rows.args_cons (Call_ (ld_blt I hg2 hm2 boot_set ?_)) rfl) rfl rfl
  refine PyProof.Rows.callWith_type1 (PyProof.Rows.args_cons (thn (ha.run pins s σ H _ I h) fun v s1 ⟨x, H1, I1, r1, q1⟩ => PyProof.Rows.args_nil ?_) na) na rfl -- its set
  obtain ⟨l, rfl, few, q1⟩ := q1
  obtain ⟨t, rfl⟩ := r1
  refine set_from_text (I1.ok.hd hc) (by rw [S_cps]; unfold scanBound; omega) fun hp' tk hS kept => PyProof.Rows.args_nil ?_
  have I2 : Inv X pins σ H1 { s1 with heap := hp', toks := tk } := I1.kept kept
  rw [S_cps] at hS
  obtain ⟨Fs, ds, ⟨o, es, ep, tb, ho, hex, hd, _, _, _, hf, hn⟩, nd, hds, _⟩ := hS
  have e := dst_is l ds nd hds
  have le := dst_le l
  exact call_len_set ho hex hd hf (by rw [hn]; omega) ⟨.int (dst l), H1, I2.tok _, ⟨_, by rw [hn, e]⟩, q1⟩

/-! ### all(test for x in text), the test made of the module's names -/
/-- the element at a sign: what it gives, wherever the expression runs later -/
def EltC (X : Cx) (s₁ : Shared) (P : Addr) (sc : Scope) (x : Str) (elt : Expr) (pb : Nat → Bool) : Prop :=
  ∀ (L : Addr) (code : Value) (A' : Around) (E' : Value → Shared → Prop) (ch : Nat) (t : Tok) (s₂ : Shared) (m : Str → Option Value), A'.handled = none →
    (∀ b o, b ≠ P → s₁.heap.get? b = some o → s₂.heap.get? b = some o) → s₂.heap.Ns L m → m x = some (.str ⟨#[ch]⟩ t) →
    wpAny (model X.prog X.w) A' (eval elt (genEnv sc (cloFrom X.env.cells sc.names []) L code builtinsNs X.env)) (fun y s₃ => y = .bool (pb ch) ∧ Keeps s₂ s₃) E' s₂
section
variable {X : Cx} {s : Shared} {H : Hp} {σ : L2.St} {pins : List (Addr × Obj)}
theorem gen_signs {c P : Addr} {elt iter : Expr} {x : Str} {px gpos : Pos} {sc : Scope} {te : TE} {k : Nat} {Q' : Value → Shared → Prop} {Want : Str → Hp → Prop} {pb : Nat → Bool}
    (room : Room k X.A) (TB : GxR.TabB X.base X.mg c P) (hcode : X.env.code = .ref c) (own : GxR.GenS X.env sc x) (walked : PE X iter te) (plain : ∀ v, genFold iter X.env v = pure v) (I : Inv X pins σ H s)
    (each : ∀ s₁ H₁, Inv X pins σ H₁ s₁ → GxR.TabG H₁ P → EltC X s₁ P sc x elt pb)
    (h : te σ H fun v H₁ => ∃ a : Str, v = .str a ∧ GxR.TabG H₁ P ∧ Want a H₁)
    (fin : ∀ a H₁ g s₅, Want a H₁ → GxR.Ready X pins σ H₁ P a pb g s₅ → Q' (.ref g) s₅) :
    wpAny (model X.prog X.w) X.A (eval (.GeneratorExp elt [⟨.Name x px, iter, [], 0⟩] sc gpos) X.env) Q' X.xe s := by
  have deep : X.A.depth < recursionLimit := by have := room.dp; omega
  refine wpAny_GeneratorExp_walksQ room.hd own.co (closure_ok own.free) own.cell own.dot own.loc own.kind deep (thn (walked.run pins s σ H _ I h) fun u s₁ had => ?_) plain
  obtain ⟨_, H₁, I₁, rel, a, rfl, ⟨tb, hP, ok⟩, want⟩ := had
  obtain ⟨ut, rfl⟩ := rel
  have tabAt : s₁.heap.get? P = some { cls := .none, data := .fields tb } := I₁.hok P _ hP
  refine wpAny_pyIter_str fun o At W at0 => ?_
  have newP : s₁.heap.objs.size ≠ P := fun z => Nat.lt_irrefl _ (Nat.lt_of_lt_of_eq (Heap.lt_size tabAt) z)
  have statics : cStatics < s₁.heap.objs.size ∧ cStatics ≠ P := by
    obtain ⟨_, ns, _⟩ := I₁.nolimit
    refine ⟨ns.lt, fun z => ?_⟩
    obtain ⟨ob, _, _, e, d, _⟩ := ns
    rw [z, tabAt] at e
    rw [← Option.some.inj e] at d
    cases d
  have quiet : (s₁.heap.push o).NoLimit := I₁.nolimit.push o
  refine ⟨quiet, GP.code_there hcode (TB.code.keeps fun b u e => Heap.get?_push_of_some _ (I₁.bk b u e)) (Heap.get?_push_of_some _ tabAt) ok fun code h₃ tk more ext le tab₃ ok₃ => ?_⟩
  rw [Heap.size_push] at le
  have stays : ∀ b u, b ≠ P → s₁.heap.get? b = some u → h₃.get? b = some u := fun b u hb e => ext b u hb (Heap.get?_push_of_some _ e)
  obtain ⟨bm, ob, f1, f2, f3, f4, f5, f6, f7, f8⟩ := TB.bm
  have globals : Heap.Ns h₃ X.env.globals X.mg := by
    rw [I₁.ok.glob]
    exact ((I₁.mod.glob.keeps I₁.bk).push o).extBut ext TB.gP
  refine wpAny_builtinsFor (m := X.mg) globals f1 f2 (stays bm ob f4 (I₁.bk bm ob f5)) f6 f7 f8 ?_
  have later : ∀ b u, s₁.heap.get? b = some u → b ∉ [h₃.objs.size, s₁.heap.objs.size] := fun b u e z => by
    have lt := Heap.lt_size e
    rcases List.mem_cons.mp z with z' | z'
    · exact Nat.lt_irrefl _ (Nat.lt_of_lt_of_le (z' ▸ lt) (Nat.le_of_succ_le le))
    · exact Nat.lt_irrefl _ (List.mem_singleton.mp z' ▸ lt)
  refine ⟨_, _, _, _, _, _, fun _ => true, fun i y => ∃ ch, a.cps[i]? = some ch ∧ y = .bool (pb ch), rfl, W, ?_, fun b hb => ?_, quiet.extBut ext statics.2, fun z => ?_, fun href kept => ⟨?_, ?_⟩, ?_⟩
  · exact (W X.A room.hd).frame _ _ _ at0 fun b hb u e => ext b u (fun z => newP ((List.mem_singleton.mp hb).symm.trans z)) e
  · rw [List.mem_singleton.mp hb]
    exact Nat.lt_of_succ_le le
  · exact Nat.ne_of_lt statics.1 (List.mem_singleton.mp z)
  · intro A' E' i v s₂ m _ _ _ _ _
    rw [List.forIn_nil]
    exact wpAny_pure ⟨rfl, GxR.keeps_refl _⟩
  · intro A' E' i v s₂ m calm hx _ ns ea still
    obtain ⟨ch, t, ech, rfl⟩ := hx
    refine wpAny_mono (each s₁ H₁ I₁ ⟨tb, hP, ok⟩ _ code A' E' ch t s₂ m calm (fun b u hb q => ?_) ns ea) (fun y s₃ r => ⟨⟨ch, ech, r.1⟩, r.2⟩) fun _ _ q => q
    have q3 := stays b u hb q
    exact still b (List.mem_range.mpr (Heap.lt_size q3)) (fun z => later b u q (List.mem_cons_of_mem _ z)) u (kept b u q3)
  · intro g h₅ tk₅ gs bare above size kept W₅ at₅
    rw [GxR.passing_true, List.length_range] at W₅
    refine fin a H₁ g _ want ⟨_, _, _, _, _, W₅.in4_1, at₅, fun j y sj Qj Ej hy hq => ?_, fun s₆ mv => ?_⟩
    · obtain ⟨i, ei, ch, ech, rfl⟩ := hy
      obtain ⟨lt, e2⟩ := List.getElem?_eq_some_iff.mp ei
      rw [List.getElem_range] at e2
      subst e2
      have z : GxR.trF pb a.cps.toList j = pb ch := GxR.trF_some (by rw [Array.getElem?_toList]; exact ech)
      rw [z] at hq
      exact wpAny_truthy_bool hq
    · have all : ∀ b u, b ≠ P → s₁.heap.get? b = some u → s₆.heap.get? b = some u := fun b u hb e => mv.heap b u (later b u e) (kept b u (stays b u hb e))
      have tab₆ := mv.heap P _ (later P _ tabAt) (kept P _ tab₃)
      have J := GxR.inv_tab (more := more) (d' := s₆.drawn) (t' := s₆.toks) I₁ hP all tab₆ (AllBare.movedS (I₁.bare.push bare) mv)
      rw [GxR.sh_eta s₁ s₆ mv.os] at J
      exact ⟨_, ⟨⟨tb ++ more, upd_same, ok₃⟩, fun b hb => upd_ne hb⟩, J⟩
theorem pe_allC {c P : Addr} {elt iter : Expr} {x : Str} {px p pos gpos : Pos} {sc : Scope} {pb : Nat → Bool} {te : TE} {k : Nat}
    (room : Room k X.A) (glob : Gl X "all") (free : X.mg "all" = none) (TB : GxR.TabB X.base X.mg c P) (hcode : X.env.code = .ref c) (own : GxR.GenS X.env sc x) (walked : PE X iter te)
    (each : ∀ pins σ s₁ H₁, Inv X pins σ H₁ s₁ → GxR.TabG H₁ P → EltC X s₁ P sc x elt pb) (plain : ∀ v, genFold iter X.env v = pure v)
    (one : starEach [.GeneratorExp elt [⟨.Name x px, iter, [], 0⟩] sc gpos] X.env = [(false, eval (.GeneratorExp elt [⟨.Name x px, iter, [], 0⟩] sc gpos) X.env)] := by rfl) :
    PE X (.Call (.Name "all" p) [.GeneratorExp elt [⟨.Name x px, iter, [], 0⟩] sc gpos] [] pos) (GxR.tAllS P pb te) := by
  constructor
  intro pins s σ H Q I h
  refine wpAny_Call_Name_kw (ld_blt I glob free (show bootBuiltins "all" = some (.builtin "all") by decide +kernel) (callWith_builtin1 ?_ one (by rfl)))
  rw [one]
  refine Calls.spliced_cons (gen_signs (Want := fun a H1 => ∀ H2, GxR.Tabbed P H1 H2 → Q (.bl (a.cps.toList.all pb)) H2) room TB hcode own walked plain I (fun s₁ H₁ J g => each pins σ s₁ H₁ J g) h fun a H₁ gen s₅ want fresh => Calls.spliced_nil ?_)
  obtain ⟨foot, writes, Gens, Item, At, W, a0, truth, behind⟩ := fresh
  refine call_all_walkS (W.self 0 _ _ _ a0 ⟨gen, foot, writes, Gens, _, Item, At, _, rfl, W, a0, truth, fun s₆ mv => ?_⟩)
  obtain ⟨H₂, tabbed, J⟩ := behind s₆ mv
  refine ⟨.bl _, H₂, J, rfl, ?_⟩
  rw [GxR.all_signs a pb]
  exact want H₂ tabbed
/-- x in NAME, NAME a text of the module -/
theorem elt_in_name {P : Addr} {sc : Scope} {x y : Str} {z : Str} {p1 p2 p3 : Pos} {s₁ : Shared} {H₁ : Hp} (gP : mainGlobals ≠ P) (I : Inv X pins σ H₁ s₁) (g : GxR.TabG H₁ P) (hy : ∃ u, X.mg y = some u ∧ RelV (.str z) u) (kf : sc.kind = .function) (lx : sc.names.lookup x = some .local) (ly : sc.names.lookup y = some .globalImplicit)
    (n1 : (x == ("__debug__" : Str)) = false := by decide) (n2 : (y == ("__debug__" : Str)) = false := by decide) :
    EltC X s₁ P sc x (.Compare (.Name x p1) [.In] [.Name y p2] p3) (fun ch => decide (ch ∈ z.cps.toList)) := by
  intro L code A' E' ch t s₂ m calm kept ns ea
  obtain ⟨u, hu, tz, rfl⟩ := hy
  obtain ⟨hg, mb, h1, h2⟩ := GP.names_in (s₂ := s₂) I g gP kept
  refine wpAny_Compare1 (wpAny_Name (wpAny_loadName_local kf (show sc.names.lookup x = some .local from lx) ns ea ?_) n1)
  refine Calls.Name_function_global kf (show sc.names.lookup y = some .globalImplicit from ly) (Calls.loadGlobal_global (by show Heap.Ns _ X.env.globals X.mg; rw [I.ok.glob]; exact hg) hu ?_) n2
  refine PyProof.Rows.in_str ⟨?_, GxR.keeps_tok _ _⟩
  rw [PySem.StrLaws.found_one]
end

/-! ### what readings are -/
def sg36 : List Nat := ("abcdefghijklmnopqrstuvwxyz0123456789" : Str).cps.toList
def isCh (l : List Nat) : Bool := decide (2 ≤ l.length) && decide (l.length ≤ 6) && decide (dst l = l.length) && l.all fun c => decide (c ∈ sg36)
/-- up to the closing sign -/
def inner (r : List Nat) : List Nat := r.takeWhile (· ≠ 93)
def plainSg (c : Nat) : Bool := decide (c ∈ sg36 ++ [63] ++ [42])
/-- the parts of a text, if it's such a row of parts -/
def parse : List Nat → Option (List (List Nat))
  | [] => some []
  | c :: r => if c = 91 then (if (inner r).length < r.length ∧ isCh (inner r) = true then (parse (r.drop ((inner r).length + 1))).map (inner r :: ·) else none)
    else if plainSg c = true then (parse r).map ([c] :: ·) else none
termination_by l => l.length
decreasing_by
  all_goals simp only [List.length_cons, List.length_drop]; omega
def isRd (l : List Nat) : Bool := match parse l with
  | some (_ :: _) => true
  | _ => false
theorem parse_nil : parse [] = some [] := by rw [parse]
theorem parse_open {r : List Nat} (h : (inner r).length < r.length) (hc : isCh (inner r) = true) : parse (91 :: r) = (parse (r.drop ((inner r).length + 1))).map (inner r :: ·) := by
  rw [parse, if_pos rfl, if_pos ⟨h, hc⟩]
theorem parse_bad {r : List Nat} (h : ¬ ((inner r).length < r.length ∧ isCh (inner r) = true)) : parse (91 :: r) = none := by
  rw [parse, if_pos rfl, if_neg h]
theorem parse_one {c : Nat} {r : List Nat} (h : c ≠ 91) (hp : plainSg c = true) : parse (c :: r) = (parse r).map ([c] :: ·) := by
  rw [parse, if_neg h, if_pos hp]
theorem parse_no {c : Nat} {r : List Nat} (h : c ≠ 91) (hp : plainSg c = false) : parse (c :: r) = none := by
  rw [parse, if_neg h, if_neg (by rw [hp]; decide)]
/-- what stands up to the first closing sign -/
theorem inner_at : ∀ {r : List Nat} {j : Nat}, r[j]? = some 93 → (∀ i, i < j → r[i]? ≠ some 93) → inner r = r.take j ∧ j < r.length
  | [], j, h, _ => by cases h
  | c :: r, 0, h, _ => by
    cases h
    exact ⟨rfl, by simp⟩
  | c :: r, j + 1, h, hn => by
    have hc : c ≠ 93 := fun z => hn 0 (by omega) (by rw [z]; rfl)
    obtain ⟨h1, h2⟩ := inner_at (r := r) (j := j) (by simpa using h) fun i hi => by
      have := hn (i + 1) (by omega)
      simpa using this
    refine ⟨?_, by simp only [List.length_cons]; omega⟩
    unfold inner at h1 ⊢
    rw [List.takeWhile_cons, if_pos (decide_eq_true hc), h1]
    rfl
theorem inner_all {r : List Nat} (h : ∀ i : Nat, r[i]? ≠ some 93) : inner r = r := by
  unfold inner
  induction r with
  | nil => rfl
  | cons c r ih =>
    have hc : c ≠ 93 := fun z => h 0 (by rw [z]; rfl)
    rw [List.takeWhile_cons, if_pos (decide_eq_true hc), ih fun i => by simpa using h (i + 1)]
/-- so far these parts, and then the rest from a place -/
def Sofar (l : List Nat) (a : Nat) (ps : List (List Nat)) : Prop := a ≤ l.length ∧ ps.length ≤ a ∧ parse l = (parse (l.drop a)).map (ps ++ ·)
theorem Sofar.zero (l : List Nat) : Sofar l 0 [] := ⟨Nat.zero_le _, Nat.le_refl _, by
  rw [List.drop_zero]
  cases parse l <;> rfl⟩
theorem map_cat {o : Option (List (List Nat))} {ps : List (List Nat)} {x : List Nat} : (o.map (x :: ·)).map (ps ++ ·) = o.map (ps ++ [x] ++ ·) := by
  cases o with
  | none => rfl
  | some v => simp
theorem Sofar.fin {l : List Nat} {a : Nat} {ps : List (List Nat)} (h : Sofar l a ps) (e : a = l.length) : parse l = some ps := by
  rw [h.2.2, e, List.drop_length, parse_nil]
  simp
theorem Sofar.one {l : List Nat} {a c : Nat} {ps : List (List Nat)} (h : Sofar l a ps) (e : l[a]? = some c) (h1 : c ≠ 91) (hp : plainSg c = true) : Sofar l (a + 1) (ps ++ [[c]]) := by
  obtain ⟨lt, e'⟩ := List.getElem?_eq_some_iff.mp e
  refine ⟨lt, by rw [List.length_append]; exact Nat.succ_le_succ h.2.1, ?_⟩
  rw [h.2.2, List.drop_eq_getElem_cons lt, e', parse_one h1 hp, map_cat]
theorem Sofar.no {l : List Nat} {a c : Nat} {ps : List (List Nat)} (h : Sofar l a ps) (e : l[a]? = some c) (h1 : c ≠ 91) (hp : plainSg c = false) : parse l = none := by
  obtain ⟨lt, e'⟩ := List.getElem?_eq_some_iff.mp e
  rw [h.2.2, List.drop_eq_getElem_cons lt, e', parse_no h1 hp]
  rfl
theorem Sofar.bad {l : List Nat} {a : Nat} {ps : List (List Nat)} (h : Sofar l a ps) (e : l[a]? = some 91) (hb : ¬ ((inner (l.drop (a + 1))).length < (l.drop (a + 1)).length ∧ isCh (inner (l.drop (a + 1))) = true)) : parse l = none := by
  obtain ⟨lt, e'⟩ := List.getElem?_eq_some_iff.mp e
  rw [h.2.2, List.drop_eq_getElem_cons lt, e', parse_bad hb]
  rfl
/-- the first closing sign behind a stands at k -/
theorem inner_k {l : List Nat} {a k : Nat} (hk : a < k) (ek : l[k]? = some 93) (hn : ∀ i, a < i → i < k → l[i]? ≠ some 93) : inner (l.drop (a + 1)) = (l.drop (a + 1)).take (k - (a + 1)) ∧ k - (a + 1) < (l.drop (a + 1)).length := by
  refine inner_at ?_ fun i hi => ?_
  · rw [List.getElem?_drop, show a + 1 + (k - (a + 1)) = k by omega]; exact ek
  · rw [List.getElem?_drop]; exact hn _ (by omega) (by omega)
theorem Sofar.open {l : List Nat} {a k : Nat} {ps : List (List Nat)} (h : Sofar l a ps) (e : l[a]? = some 91) (hk : a < k) (ek : l[k]? = some 93) (hn : ∀ i, a < i → i < k → l[i]? ≠ some 93) (hc : isCh ((l.drop (a + 1)).take (k - (a + 1))) = true) : Sofar l (k + 1) (ps ++ [(l.drop (a + 1)).take (k - (a + 1))]) := by
  obtain ⟨lt, e'⟩ := List.getElem?_eq_some_iff.mp e
  obtain ⟨i1, i2⟩ := inner_k hk ek hn
  have hz := h.2.1
  have hlen : (inner (l.drop (a + 1))).length = k - (a + 1) := by rw [i1, List.length_take]; omega
  refine ⟨(List.getElem?_eq_some_iff.mp ek).1, by rw [List.length_append]; show ps.length + 1 ≤ _; omega, ?_⟩
  rw [h.2.2, List.drop_eq_getElem_cons lt, e', parse_open (by rw [hlen]; exact i2) (by rw [i1]; exact hc), map_cat, hlen, i1, List.drop_drop]
  rw [show a + 1 + (k - (a + 1) + 1) = k + 1 by omega]
theorem Sofar.badk {l : List Nat} {a k : Nat} {ps : List (List Nat)} (h : Sofar l a ps) (e : l[a]? = some 91) (hk : a < k) (ek : l[k]? = some 93) (hn : ∀ i, a < i → i < k → l[i]? ≠ some 93) (hc : isCh ((l.drop (a + 1)).take (k - (a + 1))) = false) : parse l = none := by
  refine h.bad e fun z => ?_
  rw [(inner_k hk ek hn).1, hc] at z
  exact nomatch z.2
theorem Sofar.never {l : List Nat} {a : Nat} {ps : List (List Nat)} (h : Sofar l a ps) (e : l[a]? = some 91) (hn : ∀ i, a < i → l[i]? ≠ some 93) : parse l = none := by
  refine h.bad e fun z => ?_
  rw [inner_all fun i => by rw [List.getElem?_drop]; exact hn _ (by omega)] at z
  exact Nat.lt_irrefl _ z.1
/-- a sign within that is none of the signs -/
theorem Sofar.odd {l : List Nat} {a j c : Nat} {ps : List (List Nat)} (h : Sofar l a ps) (e : l[a]? = some 91) (hj : a < j) (ej : l[j]? = some c) (hc : c ∉ sg36) (h9 : c ≠ 93) (hn : ∀ i, a < i → i < j → l[i]? ≠ some 93) : parse l = none := by
  refine h.bad e fun z => ?_
  have mem : c ∈ inner (l.drop (a + 1)) := by
    by_cases hex : ∃ k, j < k ∧ l[k]? = some 93 ∧ ∀ i, a < i → i < k → l[i]? ≠ some 93
    · obtain ⟨k, k1, k2, k3⟩ := hex
      rw [(inner_k (by omega) k2 k3).1]
      refine List.mem_of_getElem? (i := j - (a + 1)) ?_
      rw [List.getElem?_take_of_lt (by omega), List.getElem?_drop, show a + 1 + (j - (a + 1)) = j by omega]
      exact ej
    · rw [inner_all fun i => ?_]
      · refine List.mem_of_getElem? (i := j - (a + 1)) ?_
        rw [List.getElem?_drop, show a + 1 + (j - (a + 1)) = j by omega]
        exact ej
      · rw [List.getElem?_drop]
        intro y
        refine hex ?_
        -- the least such place
        have least : ∀ n m, m ≤ n → l[a + 1 + m]? = some 93 → ∃ k, a < k ∧ l[k]? = some 93 ∧ ∀ i, a < i → i < k → l[i]? ≠ some 93 := by
          intro n
          induction n with
          | zero =>
            intro m hm em
            obtain rfl : m = 0 := by omega
            exact ⟨a + 1, by omega, em, fun i h1 h2 => by omega⟩
          | succ n ih =>
            intro m hm em
            by_cases hx : ∃ i, a < i ∧ i < a + 1 + m ∧ l[i]? = some 93
            · obtain ⟨i, i1, i2, i3⟩ := hx
              exact ih (i - (a + 1)) (by omega) (by rw [show a + 1 + (i - (a + 1)) = i by omega]; exact i3)
            · exact ⟨a + 1 + m, by omega, em, fun i h1 h2 h3 => hx ⟨i, h1, h2, h3⟩⟩
        obtain ⟨k, k1, k2, k3⟩ := least i i (Nat.le_refl _) y
        refine ⟨k, ?_, k2, k3⟩
        rcases Nat.lt_trichotomy k j with z1 | z1 | z1
        · exact absurd k2 (hn k k1 z1)
        · rw [z1, ej] at k2
          exact absurd (Option.some.inj k2) h9
        · exact z1
  have all := z.2
  unfold isCh at all
  rw [Bool.and_eq_true, List.all_eq_true] at all
  exact hc (of_decide_eq_true (all.2 c mem))

/-! ### lists of texts beside the empty list -/
def okT (l : List Nat) : Prop := ∀ c ∈ l, c < 1114112
theorem okT.take {l : List Nat} (h : okT l) (n : Nat) : okT (l.take n) := fun c hc => h c (List.mem_of_mem_take hc)
theorem okT.drop {l : List Nat} (h : okT l) (n : Nat) : okT (l.drop n) := fun c hc => h c (List.mem_of_mem_drop hc)
theorem okT.app {l r : List Nat} (h : okT l) (g : okT r) : okT (l ++ r) := fun c hc => (List.mem_append.mp hc).elim (h c) (g c)
theorem okT.one {l : List Nat} (h : okT l) {i c : Nat} (e : l[i]? = some c) : okT [c] := fun d hd => by
  rw [List.mem_singleton.mp hd]
  exact h c (List.mem_of_getElem? e)
abbrev txs (ps : List (List Nat)) : List V := ps.map fun x => .str (SX.S x)
theorem txs_snoc (ps : List (List Nat)) (x : List Nat) : txs (ps ++ [x]) = txs ps ++ [.str (SX.S x)] := by simp [txs]
def txD (x : List Nat) : PyData := .str (SX.S x)
theorem dp_txs {K : PySem.W.Frag} {H : Hp} : ∀ ps : List (List Nat), DpAll K H (txs ps) (ps.map txD)
  | [] => .nil
  | _ :: r => .cons (.str _) (dp_txs r)
theorem lay_txs : ∀ ps : List (List Nat), (∀ x ∈ ps, okT x) → PyData.canLayAll0 (ps.map txD) = true
  | [], _ => by simp only [List.map_nil, PyData.canLayAll0]
  | p :: r, h => by
    rw [List.map_cons, PyData.canLayAll0, lay_txs r fun x hx => h x (List.mem_cons_of_mem _ hx), txD, PyData.canLay0, strOk_S (h p (List.mem_cons_self ..))]
    rfl
theorem depth_txs : ∀ ps : List (List Nat), PyData.depthAll (ps.map txD) ≤ 1
  | [] => by simp only [List.map_nil, PyData.depthAll]; omega
  | p :: r => by
    rw [List.map_cons, PyData.depthAll]
    have := depth_txs r
    simp [txD, PyData.depth]
    omega
theorem shaped_txs (ps : List (List Nat)) (h : ∀ x ∈ ps, okT x) : SeqAt.shaped (PyData.list (ps.map txD)) = true := by
  unfold SeqAt.shaped
  rw [PyData.canLay0, lay_txs ps h, PyData.depth, Bool.true_and]
  exact decide_eq_true (by have := depth_txs ps; omega)
theorem eqv_no {α : Type} (f : α → PyData) (ps : List α) : PyData.eqv (PyData.list (ps.map f)) (PyData.list []) = ps.isEmpty := by
  cases ps with
  | nil => simp [PyData.eqv, PyData.eqvAll]
  | cons p r => simp [PyData.eqv, PyData.eqvAll]
/-- xs != [] -/
theorem ne_nil {K : PySem.W.Frag} {H : Hp} {p l : Addr} {ps : List (List Nat)} {Q : VK} (h : ∀ x ∈ ps, okT x) (e : H p = some (.lst (txs ps))) (el : H l = some (.lst [])) (q : Q (.bl (!ps.isEmpty)) H) : rNeD K (.ref p) (.ref l) H Q :=
  ⟨_, .list [], .lst (SqL.of e) (dp_txs ps), .lst (SqL.of el) .nil, shaped_txs ps h, by rfl, by rw [eqv_no]; exact q⟩
theorem eq_nil {K : PySem.W.Frag} {H : Hp} {p l : Addr} {ps : List (List Nat)} {Q : VK} (h : ∀ x ∈ ps, okT x) (e : H p = some (.lst (txs ps))) (el : H l = some (.lst [])) (q : Q (.bl ps.isEmpty) H) : rEqD K (.ref p) (.ref l) H Q :=
  ⟨_, .list [], .lst (SqL.of e) (dp_txs ps), .lst (SqL.of el) .nil, shaped_txs ps h, by rfl, by rw [eqv_no]; exact q⟩

/-! ### the draws of texts -/
theorem sgn_at {z : Str} {n : Nat} (hn : z.cps.toList.length = n) (ho : okT z.cps.toList) {r : Int} (r0 : 0 ≤ r) (r1 : r < n) : ∃ ch, atI z.cps.toList r = some ch ∧ ch < 1114112 := by
  obtain ⟨k, rfl⟩ := Int.eq_ofNat_of_zero_le r0
  have lt : k < z.cps.toList.length := by omega
  exact ⟨_, atI_nat (List.getElem?_eq_getElem lt), ho _ (List.getElem_mem lt)⟩
theorem pick_at {xs : List V} {n : Nat} (hn : xs.length = n) {r : Int} (r0 : 0 ≤ r) (r1 : r < n) : ∃ v, atI xs r = some v ∧ v ∈ xs := by
  obtain ⟨k, rfl⟩ := Int.eq_ofNat_of_zero_le r0
  have lt : k < xs.length := by omega
  exact ⟨_, atI_nat (List.getElem?_eq_getElem lt), List.getElem_mem lt⟩
theorem joinL_nil : ∀ xs : List (List Nat), TL.joinL [] xs = xs.flatten
  | [] => rfl
  | [x] => by simp [TL.joinL]
  | x :: y :: r => by
    have ih := joinL_nil (y :: r)
    show x ++ ([] ++ TL.joinL [] (y :: r)) = _
    rw [ih]
    simp
theorem join_txs (xs : List (List Nat)) : Txt.join "" (xs.map SX.S) = SX.S xs.flatten := by
  have z := SX.join_S [] xs
  rw [joinL_nil] at z
  exact z
theorem flat_le {m : Nat} : ∀ {xs : List (List Nat)}, (∀ x ∈ xs, x.length ≤ m) → xs.flatten.length ≤ m * xs.length
  | [], _ => by simp
  | x :: r, h => by
    have h1 := h x (List.mem_cons_self ..)
    have h2 := flat_le fun y hy => h y (List.mem_cons_of_mem _ hy)
    rw [List.flatten_cons, List.length_append, List.length_cons, Nat.mul_add, Nat.mul_one]
    omega
theorem sum_txs : ∀ xs : List (List Nat), ((xs.map SX.S).map (·.length)).sum = xs.flatten.length
  | [] => rfl
  | x :: r => by
    rw [List.map_cons, List.map_cons, List.sum_cons, sum_txs r, List.flatten_cons, List.length_append, SX.S_len]
theorem fits_txs {xs : List (List Nat)} (h : xs.flatten.length ≤ 100000) : ((xs.map SX.S).map (·.length)).sum + (xs.map SX.S).length * ("" : Str).length ≤ 16777216 := by
  rw [sum_txs, show ("" : Str).length = 0 from rfl, Nat.mul_zero]
  omega
theorem okT_flat {xs : List (List Nat)} (h : ∀ x ∈ xs, okT x) : okT xs.flatten := fun c hc => by
  obtain ⟨x, hx, hc'⟩ := List.mem_flatten.mp hc
  exact h x hx c hc'
theorem txs_strs (xs : List (List Nat)) : txs xs = (xs.map SX.S).map V.str := by simp [txs]
/-- a text of so many signs at most -/
def TxS (n : Nat) (z : Str) : Prop := ∃ l, z = SX.S l ∧ l.length ≤ n ∧ okT l
theorem TxS.of {n : Nat} {l : List Nat} (h : l.length ≤ n) (o : okT l) : TxS n (SX.S l) := ⟨l, rfl, h, o⟩
theorem TxS.mono {n m : Nat} {z : Str} (h : TxS n z) (le : n ≤ m) : TxS m z := let ⟨l, e, h1, h2⟩ := h; ⟨l, e, Nat.le_trans h1 le, h2⟩
theorem TxS.len {n : Nat} {z : Str} (h : TxS n z) : z.length ≤ n := by
  obtain ⟨l, rfl, h1, _⟩ := h
  rw [SX.S_len]; exact h1
theorem TxS.cut {n : Nat} {z : Str} (h : TxS n z) (lo hi : Option Int) : TxS n (cutS z lo hi) := by
  obtain ⟨l, rfl, h1, h2⟩ := h
  unfold cutS
  rw [S_cps]
  refine ⟨_, rfl, ?_, (h2.drop _).take _⟩
  rw [List.length_take, List.length_drop]
  omega
theorem TxS.cutTo {n : Nat} {z : Str} (h : TxS n z) (k : Nat) : TxS k (cutS z none (some (k : Int))) := by
  obtain ⟨l, rfl, h1, h2⟩ := h
  rw [cutS_take]
  exact ⟨_, rfl, by rw [List.length_take]; omega, h2.take _⟩
theorem TxS.cat {n m : Nat} {y z : Str} (h : TxS n y) (g : TxS m z) : TxS (n + m) (y ++ z) := by
  obtain ⟨a, rfl, h1, h2⟩ := h
  obtain ⟨b, rfl, g1, g2⟩ := g
  exact ⟨a ++ b, SX.S_cat a b, by rw [List.length_append]; omega, h2.app g2⟩
theorem TxS.sg {c : Nat} (h : c < 1114112) : TxS 1 ⟨#[c]⟩ := ⟨[c], rfl, Nat.le_refl _, fun d hd => by rw [List.mem_singleton.mp hd]; exact h⟩
theorem TxS.fits {n : Nat} {z : Str} (h : TxS n z) (le : n ≤ 10000) : z.length ≤ sizeLine := Nat.le_trans h.len (Nat.le_trans le (by decide))
theorem TxS.fit {n m : Nat} {y z : Str} (h : TxS n y) (g : TxS m z) (le : n + m ≤ 10000) : y.length + z.length ≤ sizeLine := Nat.le_trans (Nat.add_le_add h.len g.len) (Nat.le_trans le (by decide))
def okS (l : List Nat) : Prop := ∀ c ∈ l, c ∈ sg36
theorem sg36_ok : okT sg36 := fun c hc => of_decide_eq_true (List.all_eq_true.mp (by decide +kernel : (sg36.all fun c => decide (c < 1114112)) = true) c hc)
theorem okS.okT {l : List Nat} (h : okS l) : okT l := fun c hc => sg36_ok c (h c hc)
/-- a text of signs: at most n, at least k -/
def TxG (k n : Nat) (z : Str) : Prop := ∃ l, z = SX.S l ∧ k ≤ l.length ∧ l.length ≤ n ∧ okS l
theorem TxG.of {k n : Nat} {l : List Nat} (h0 : k ≤ l.length) (h : l.length ≤ n) (o : okS l) : TxG k n (SX.S l) := ⟨l, rfl, h0, h, o⟩
theorem TxG.mono {k k' n m : Nat} {z : Str} (h : TxG k n z) (le0 : k' ≤ k) (le : n ≤ m) : TxG k' m z := let ⟨l, e, h0, h1, h2⟩ := h; ⟨l, e, Nat.le_trans le0 h0, Nat.le_trans h1 le, h2⟩
theorem TxG.txs {k n : Nat} {z : Str} (h : TxG k n z) : TxS n z := let ⟨l, e, _, h1, h2⟩ := h; ⟨l, e, h1, h2.okT⟩
theorem TxG.cut {k n : Nat} {z : Str} (h : TxG k n z) (lo hi : Option Int) : TxG 0 n (cutS z lo hi) := by
  obtain ⟨l, rfl, _, h1, h2⟩ := h
  unfold cutS
  rw [S_cps]
  refine ⟨_, rfl, Nat.zero_le _, ?_, fun c hc => h2 c (List.mem_of_mem_drop (List.mem_of_mem_take hc))⟩
  rw [List.length_take, List.length_drop]
  omega
theorem TxG.cutTo {k n : Nat} {z : Str} (h : TxG k n z) {j : Int} (hk : 1 ≤ k) (hj : 1 ≤ j) : TxG 1 n (cutS z none (some j)) := by
  obtain ⟨l, rfl, h0, h1, h2⟩ := h
  obtain ⟨m, rfl⟩ := Int.eq_ofNat_of_zero_le (show 0 ≤ j by omega)
  rw [cutS_take]
  refine ⟨_, rfl, ?_, ?_, fun c hc => h2 c (List.mem_of_mem_take hc)⟩
  · rw [List.length_take]; omega
  · rw [List.length_take]; omega
theorem TxG.cat {k k' n m : Nat} {y z : Str} (h : TxG k n y) (g : TxG k' m z) : TxG (k + k') (n + m) (y ++ z) := by
  obtain ⟨a, rfl, h0, h1, h2⟩ := h
  obtain ⟨b, rfl, g0, g1, g2⟩ := g
  exact ⟨a ++ b, SX.S_cat a b, by rw [List.length_append]; omega, by rw [List.length_append]; omega, fun c hc => (List.mem_append.mp hc).elim (h2 c) (g2 c)⟩
theorem TxG.turn {k n : Nat} {z : Str} (h : TxG k n z) : TxG k n (cutS z (some 1) none ++ cutS z none (some 1)) := by
  obtain ⟨l, rfl, h0, h1, h2⟩ := h
  have e1 : cutS (SX.S l) (some 1) none = SX.S (l.drop 1) := cutS_drop l 1
  have e2 : cutS (SX.S l) none (some 1) = SX.S (l.take 1) := cutS_take l 1
  rw [e1, e2, SX.S_cat]
  have el : (l.drop 1 ++ l.take 1).length = l.length := by rw [List.length_append, List.length_drop, List.length_take]; omega
  exact ⟨_, rfl, by rw [el]; exact h0, by rw [el]; exact h1, fun c hc => (List.mem_append.mp hc).elim (fun q => h2 c (List.mem_of_mem_drop q)) fun q => h2 c (List.mem_of_mem_take q)⟩
theorem TxG.fits {k n : Nat} {z : Str} (h : TxG k n z) (le : n ≤ 10000) : z.length ≤ sizeLine := h.txs.fits le
theorem TxG.fit {k k' n m : Nat} {y z : Str} (h : TxG k n y) (g : TxG k' m z) (le : n + m ≤ 10000) : y.length + z.length ≤ sizeLine := h.txs.fit g.txs le
theorem sgS_at {z : Str} {n : Nat} (hn : z.cps.toList.length = n) (ho : okS z.cps.toList) {r : Int} (r0 : 0 ≤ r) (r1 : r < n) : ∃ ch, atI z.cps.toList r = some ch ∧ ch ∈ sg36 := by
  obtain ⟨k, rfl⟩ := Int.eq_ofNat_of_zero_le r0
  have lt : k < z.cps.toList.length := by omega
  exact ⟨_, atI_nat (List.getElem?_eq_getElem lt), ho _ (List.getElem_mem lt)⟩
theorem okS_of {l : List Nat} (h : (l.all fun c => decide (c ∈ sg36)) = true) : okS l := fun c hc => of_decide_eq_true (List.all_eq_true.mp h c hc)
theorem flat_txs (xs : List (List Nat)) : (txs xs).all flatV = true := by
  rw [List.all_eq_true]
  intro v hv
  obtain ⟨x, _, rfl⟩ := List.mem_map.mp hv
  rfl
theorem okT_of {l : List Nat} (h : (l.all fun c => decide (c < 1114112)) = true) : okT l := fun c hc => of_decide_eq_true (List.all_eq_true.mp h c hc)
theorem inV_txs {x : List Nat} {xs : List (List Nat)} : inV (.str (SX.S x)) (txs xs) = decide (x ∈ xs) := by
  rw [Bool.eq_iff_iff, decide_eq_true_iff]
  unfold inV
  rw [List.any_eq_true]
  constructor
  · rintro ⟨v, hv, e⟩
    obtain ⟨y, hy, rfl⟩ := List.mem_map.mp hv
    have : SX.S y = SX.S x := eq_of_beq e
    rw [← SX.S_inj this]
    exact hy
  · intro h
    exact ⟨_, List.mem_map.mpr ⟨x, h, rfl⟩, beq_self_eq_true _⟩
def spMark : Sp := fun vs H Q _ => ∃ (d c : Addr) (t n f : Int), vs = [.ref d, .int n, .int f] ∧ StAt H d c t ∧ t < 2 ^ 59 ∧ 0 ≤ n ∧ n ≤ 20 ∧ 0 < f ∧ f ≤ 36 ∧
  ∀ l H' t', (l.length : Int) = n → okS l → t ≤ t' → t' ≤ t + 20 → StAt H' d c t' → Kp d c H H' → Q (.str (SX.S l)) H'
/-- the marks so far -/
def MkAll (ms : List (List Nat)) : Prop := (∀ x ∈ ms, 1 ≤ x.length ∧ x.length ≤ 10 ∧ okS x) ∧ ms.Nodup
theorem TxG.cutTo2 {k n m : Nat} {z : Str} (h : TxG k n z) {j : Int} (hk : 1 ≤ k) (hj : 1 ≤ j) (hm : j ≤ (m : Int)) : TxG 1 m (cutS z none (some j)) := by
  obtain ⟨l, rfl, h0, h1, h2⟩ := h
  obtain ⟨i, rfl⟩ := Int.eq_ofNat_of_zero_le (show 0 ≤ j by omega)
  rw [cutS_take]
  refine ⟨_, rfl, ?_, ?_, fun c hc => h2 c (List.mem_of_mem_take hc)⟩
  · rw [List.length_take]; omega
  · rw [List.length_take]; omega
/-- a sign put in the place of another one -/
theorem TxG.put {l s1 : List Nat} {n : Nat} {r : Int} (hl : l.length ≤ n) (ho : okS l) (h1 : s1.length = 1) (ho1 : okS s1) (r0 : 0 ≤ r) (r1 : r < l.length) : TxG 1 n (cutS (SX.S l) none (some r) ++ SX.S s1 ++ cutS (SX.S l) (some (r + 1)) none) := by
  obtain ⟨i, rfl⟩ := Int.eq_ofNat_of_zero_le r0
  have e : cutS (SX.S l) (some ((i : Int) + 1)) none = SX.S (l.drop (i + 1)) := cutS_drop l (i + 1)
  rw [cutS_take, e, SX.S_cat, SX.S_cat]
  refine ⟨_, rfl, ?_, ?_, fun c hc => ?_⟩
  · rw [List.length_append, List.length_append, h1]; omega
  · rw [List.length_append, List.length_append, h1, List.length_take, List.length_drop]; omega
  · rcases List.mem_append.mp hc with z | z
    · rcases List.mem_append.mp z with z | z
      · exact ho c (List.mem_of_mem_take z)
      · exact ho1 c z
    · exact ho c (List.mem_of_mem_drop z)
def spMarks : Sp := fun vs H Q _ => ∃ (d c : Addr) (t m : Int), vs = [.ref d, .int m] ∧ StAt H d c t ∧ t < 2 ^ 58 ∧ 0 ≤ m ∧ m ≤ 30 ∧
  ∀ ms p H' t', (1 ≤ m → 1 ≤ ms.length) → ms.length ≤ 30 → MkAll ms → H p = none → H' p = some (.lst (txs ms)) → t ≤ t' → t' ≤ t + 10000 → StAt H' d c t' → Kp d c H H' → Q (.ref p) H'
abbrev sMark : Stmt := topS 9
theorem scMark : FnScope ["_law_state", "_law_long", "_law_few", "_law_signs", "_law_k"] ["_law_state", "_law_long", "_law_few"] (defScope sMark) := ⟨rfl, rfl, rfl, by decide +kernel, rfl, by decide +kernel, by decide +kernel⟩
abbrev sMarks : Stmt := topS 10
theorem scMarks : FnScope ["_law_state", "_law_many", "_law_long", "_law_few", "_law_base", "_law_found", "_law_k", "_law_sort", "_law_at", "_law_mark_here"] ["_law_state", "_law_many"] (defScope sMarks) := ⟨rfl, rfl, rfl, by decide +kernel, rfl, by decide +kernel, by decide +kernel⟩
abbrev abS : Str := "ab1c2dz09mefghijklnopqrstuvwxy345678"
theorem ab_len : abS.cps.toList.length = 36 := by decide +kernel
theorem ab_ok : okS abS.cps.toList := okS_of (by decide +kernel)
section
variable {K : PySem.W.Frag} {mg : Str → Option Value} {P : Program} {w : World} {base : Heap}
theorem ok_Mark {f : Addr} {fd : FuncData} (F : Fun K "_law_mark" "_law_mark" sMark f fd) (C__law_take : Cal P w K mg base 1 "_law_take" ["_law_state", "_law_many"] spTake) (m_range : mg "range" = none) : FnOk P w K mg base CX0 2 f fd ["_law_state", "_law_long", "_law_few"] spMark := by
  refine F.ok scMark (fun vs H Q E h => ?_) (fun cdv A outer s H vs Q E hr h => ?_)
  · obtain ⟨d, c, t, n, f, rfl, _⟩ := h
    rfl
  · obtain ⟨d, c, t, n, f, rfl, hS, ht, n0, n1, f0, f1, q⟩ := h
    refine ⟨_, pss_cons (ps_set (i := 3) scMark.nd rfl (.inr rfl) pe_str)
      (pss_one (ps_ret (pe_join pe_str (pe_lc (own := [("_law_k", 4)]) (g := (gName 4)) (tt := tYes) (te := (tOp (L2.rIxS) (tVar 3) (tCall spTake [] E0 (tCons (tVar 0) (tCons (tVar 2) tNil))))) rfl scMark.nd (pi_range1 rfl m_range (pa_cons (pv 1) pa_nil)) (blkOk_by (own := [("_law_k", 4)]) (N := ["_law_state", "_law_long", "_law_few", "_law_signs", "_law_k"]) (sc := defScope sMark) (by decide +kernel)) (fun _ _ _ _ _ => (pg_name (i := 4) scMark.nd rfl (.inl rfl))) (fun _ _ _ _ _ => pts_nil) (fun _ _ _ _ _ => (pe_ix ix_str (pv 3) (pe_own C__law_take hr (by rfl) (pa_cons (pv 0) (pa_cons (pv 2) pa_nil))) (fun _ _ => rfl))))))), ?_⟩
    refine ⟨⟨_, rfl⟩, _, rfl, n, rfl, by omega, by omega, fun D nD => lc_draw (α := Nat) (fun ch => .str (sgS ch)) (fun _ ch => ch ∈ sg36) 1 (walk_range (lo := 0) (n := n.toNat)) hS nD (by omega) (fun _ _ => trivial) (fun i x Hx Hx' t' Kt Kn hi u0 u1 hSx kx hy k => ?_) (fun H3 t3 cs hcl hcs u0 u1 hS3 k3 hD => ?_)⟩
    · obtain ⟨rfl, rfl⟩ := hy
      refine ⟨rfl, _, rfl, _, rfl, _, rfl, d, c, t', f, rfl, hSx, by omega, by omega, by omega, fun r2 H4 r20 r21 hS4 k4 => ?_⟩
      obtain ⟨ch, e, hch⟩ := sgS_at ab_len ab_ok r20 (show r2 < 36 by omega)
      exact ⟨_, r2, _, rfl, rfl, (by show abS.length ≤ sizeLine; decide +kernel), e, k ch _ _ H4 hch (.str _) (by omega) (by omega) hS4 k4⟩
    obtain ⟨_, ws, e, _, eD, hws⟩ := hD.list
    cases e
    have ews : ws = (cs.map sgS).map V.str := (EchN.strs (ns := cs.map sgS) (by rw [List.map_map]; exact hws))
    subst ews
    refine ⟨_, D, cs.map sgS, rfl, rfl, .inl (SqL.of eD), join_fits (by omega), ?_⟩
    rw [join_signs]
    exact q cs H3 t3 (by omega) (fun ch hch => by
      obtain ⟨i, hi, e⟩ := List.getElem_of_mem hch
      exact hcs i ch (by rw [List.getElem?_eq_getElem hi, e])) (by omega) (by omega) hS3 k3
theorem ok_Marks {f : Addr} {fd : FuncData} (F : Fun K "_law_marks" "_law_marks" sMarks f fd) (C__law_take : Cal P w K mg base 1 "_law_take" ["_law_state", "_law_many"] spTake) (C__law_mark : Cal P w K mg base 2 "_law_mark" ["_law_state", "_law_long", "_law_few"] spMark) (m_range : mg "range" = none) (m_len : mg "len" = none) : FnOk P w K mg base CX0 3 f fd ["_law_state", "_law_many"] spMarks := by
  refine F.ok scMarks (fun vs H Q E h => ?_) (fun cdv A outer s H vs Q E hr h => ?_)
  · obtain ⟨d, c, t, m, rfl, _⟩ := h
    rfl
  · obtain ⟨d, c, t, m, rfl, hS, ht, m0, m1, q⟩ := h
    refine ⟨_, pss_cons (ps_par rfl scMarks.nd (i := 2) (j := 3) rfl rfl (by decide) rfl rfl (pa_cons (pe_op op_add pe_int (pe_own C__law_take (hr.mono (show 1 ≤ 2 by decide)) (by rfl) (pa_cons (pv 0) (pa_cons pe_int pa_nil)))) (pa_cons (pe_ix ix_list (pe_lst (pa_cons pe_int (pa_cons pe_int (pa_cons pe_int pa_nil)))) (pe_own C__law_take (hr.mono (show 1 ≤ 2 by decide)) (by rfl) (pa_cons (pv 0) (pa_cons pe_int pa_nil))) (fun _ _ => rfl)) pa_nil)) (by rfl))
      (pss_cons (ps_par rfl scMarks.nd (i := 4) (j := 5) rfl rfl (by decide) rfl rfl (pa_cons (pe_own C__law_mark hr (by rfl) (pa_cons (pv 0) (pa_cons (pv 2) (pa_cons (pv 3) pa_nil)))) (pa_cons (pe_lst pa_nil) pa_nil)) (by rfl))
      (pss_cons (ps_for PassesOwn.never rfl (pi_range1 rfl m_range (pa_cons (pe_op op_mulW pe_int (pv 1)) pa_nil)) (pg_name (i := 6) scMarks.nd rfl (.inl rfl))
        (pss_cons (ps_par rfl scMarks.nd (i := 7) (j := 8) rfl rfl (by decide) rfl rfl (pa_cons (pe_own C__law_take (hr.mono (show 1 ≤ 2 by decide)) (by rfl) (pa_cons (pv 0) (pa_cons pe_int pa_nil))) (pa_cons (pe_own C__law_take (hr.mono (show 1 ≤ 2 by decide)) (by rfl) (pa_cons (pv 0) (pa_cons (pv 2) pa_nil))) pa_nil)) (by rfl))
        (pss_cons (ps_set (i := 9) scMarks.nd rfl (.inl rfl) (pe_op op_add_str (pe_op op_add_str (pe_slice sl_str (pv 4) po_none (po_some (pv 8))) (pe_own C__law_mark hr (by rfl) (pa_cons (pv 0) (pa_cons pe_int (pa_cons (pv 3) pa_nil))))) (pe_slice sl_str (pv 4) (po_some (pe_op op_add (pv 8) pe_int)) po_none)))
        (Evl.pss_cut (ps_if (pt_cmpR op_eq (pv 7) pe_int (nomark _)) (pss_one (ps_set (i := 9) scMarks.nd rfl (.inl rfl) (pe_own C__law_mark hr (by rfl) (pa_cons (pv 0) (pa_cons (pe_op op_add pe_int (pe_own C__law_take (hr.mono (show 1 ≤ 2 by decide)) (by rfl) (pa_cons (pv 0) (pa_cons pe_int pa_nil)))) (pa_cons (pv 3) pa_nil))))))
          pss_nil)
        (Evl.pss_cut (ps_if (pt_cmpR op_eq (pv 7) pe_int (nomark _)) (pss_one (ps_set (i := 9) scMarks.nd rfl (.inl rfl) (pe_slice sl_str (pe_op op_add_str (pv 9) (pe_own C__law_mark hr (by rfl) (pa_cons (pv 0) (pa_cons pe_int (pa_cons (pv 3) pa_nil))))) po_none (po_some (pe_op op_add pe_int (pe_own C__law_take (hr.mono (show 1 ≤ 2 by decide)) (by rfl) (pa_cons (pv 0) (pa_cons pe_int pa_nil))))))))
          pss_nil)
        (Evl.pss_cut (ps_if (pt_cmpR op_eq (pv 7) pe_int (nomark _)) (pss_one (ps_set (i := 9) scMarks.nd rfl (.inl rfl) (pe_op op_add_str (pe_slice sl_str (pv 9) (po_some pe_int) po_none) (pe_slice sl_str (pv 9) po_none (po_some pe_int)))))
          pss_nil)
        (pss_one (ps_if (PW.pt (pw_and (pt_cmpR op_notIn_seq (pv 9) (pv 5) (by rfl)) (pw_and1 (pt_cmpR op_lt (pe_callB call_len_seq (by rfl) m_len PySem.boot_len (pa_cons (pv 5) pa_nil)) (pv 1) (nomark _))))) (pss_one (ps_expr (pe_bm PySem.F.plainAttrs_list PySem.F.slot_list_append PySem.F.type_list_append mt_append (pv 5) (pa_cons (pv 9) pa_nil))))
          pss_nil))))))))
      (pss_one (ps_ret (pv 5))))), ?_⟩
    refine ⟨_, rfl, d, c, t, 7, rfl, hS, by omega, by decide, by decide, fun r1 H1 r10 r11 hS1 k1 => ?_⟩
    refine ⟨4, r1, rfl, rfl, (by show 3 ≤ sizeLine; decide), fun L nL => ?_⟩
    have sL := same_upd (o := .lst [.int 2, .int 4, .int 36]) nL
    have offL := hS1.off nL
    refine ⟨_, rfl, d, c, t + 1, 3, rfl, hS1.same sL, by omega, by decide, by decide, fun r2 H2 r20 r21 hS2 k2 => ?_⟩
    obtain ⟨v, ev, hv⟩ := pick_at (xs := [.int 2, .int 4, .int 36]) (n := 3) rfl r20 r21
    have hv' : ∃ fw : Int, v = .int fw ∧ 1 ≤ fw ∧ fw ≤ 36 := by
      simp only [List.mem_cons, List.not_mem_nil, or_false] at hv
      rcases hv with rfl | rfl | rfl
      · exact ⟨_, rfl, by decide, by decide⟩
      · exact ⟨_, rfl, by decide, by decide⟩
      · exact ⟨_, rfl, by decide, by decide⟩
    obtain ⟨fw, rfl, fw1, fw2⟩ := hv'
    refine ⟨L, _, r2, _, rfl, rfl, SqL.of (k2 _ _ offL.1 offL.2 upd_same), ev, _, _, rfl, ?_⟩
    have k02 := (k1.trans (Kp.same d c sL)).trans k2
    -- the base
    refine ⟨_, rfl, _, rfl, _, rfl, d, c, t + 1 + 1, 4 + r1, fw, rfl, hS2, by omega, by omega, by omega, by omega, by omega, fun bs H3 t3 hbl hbo u0 u1 hS3 k3 => ?_⟩
    refine ⟨Nat.zero_le _, fun p np => ⟨_, _, rfl, ?_⟩⟩
    have sp := same_upd (o := .lst []) np
    have offp := hS3.off np
    have k03 := k02.trans k3
    have hB : TxG 1 10 (SX.S bs) := .of (by omega) (by omega) hbo
    have hzB := hB.fits (by decide)
    refine ⟨_, rfl, 2, m, rfl, rfl, mulw (by decide) (by omega), 2 * m, rfl, by omega, by omega, for_range (n := (2 * m).toNat) (fun i σ Hx => ∃ (t' : Int) (ms : List (List Nat)) (y6 y7 y8 y9 : Option V), σ = [some (.ref d), some (.int m), some (.int (4 + r1)), some (.int fw), some (.str (SX.S bs)), some (.ref p), y6, y7, y8, y9] ∧ Hx p = some (.lst (txs ms)) ∧ (0 < i → 1 ≤ ms.length) ∧ (ms.length : Int) ≤ m ∧ MkAll ms ∧ t3 ≤ t' ∧ t' ≤ t3 + 100 * (i : Int) ∧ StAt Hx d c t' ∧ Kp d c H Hx)
      ⟨t3, [], _, _, _, _, rfl, upd_same, (fun z => absurd z (Nat.lt_irrefl 0)), by show (0 : Int) ≤ m; omega, ⟨(fun _ z => nomatch z), List.nodup_nil⟩, by omega, by omega, hS3.same sp, k03.trans (Kp.same d c sp)⟩ (fun i σ Hx hi hP => ?_) (fun σ Hx hP => ?_)⟩
    · obtain ⟨t', ms, y6, y7, y8, y9, rfl, ep, hne, hml, hall, v0, v1, hSx, kx⟩ := hP
      have hi2 : (i : Int) < 60 := by omega
      refine ⟨_, rfl, d, c, t', 4, rfl, hSx, by omega, by decide, by decide, fun r3 H4 r30 r31 hS4 k4 => ?_⟩
      refine ⟨_, rfl, _, rfl, d, c, t' + 1, 4 + r1, rfl, hS4, by omega, by omega, by omega, fun r4 H5 r40 r41 hS5 k5 => ⟨_, _, rfl, ?_⟩⟩
      have ep5 := k5 _ _ offp.1 offp.2 (k4 _ _ offp.1 offp.2 ep)
      have kx5 := (kx.trans k4).trans k5
      refine ⟨_, rfl, _, rfl, _, rfl, SX.S bs, rfl, hzB, ?_⟩
      refine ⟨_, rfl, _, rfl, d, c, t' + 1 + 1, 1, fw, rfl, hS5, by omega, by decide, by decide, by omega, by omega, fun s1 H6 t6 hs1 ho1 w0 w1 hS6 k6 => ?_⟩
      have h1 : TxG 1 1 (SX.S s1) := .of (by omega) (by omega) ho1
      refine ⟨_, _, rfl, rfl, (hB.cut _ _).fit h1 (by decide), ?_⟩
      refine ⟨_, rfl, _, rfl, _, 1, rfl, rfl, _, rfl, SX.S bs, rfl, hzB, _, _, rfl, rfl, ((hB.cut _ _).cat h1).fit (hB.cut _ _) (by decide), ?_⟩
      have hA : TxG 1 10 (cutS (SX.S bs) none (some r4) ++ SX.S s1 ++ cutS (SX.S bs) (some (r4 + 1)) none) := TxG.put (by omega) hbo (by omega) ho1 r40 (by omega)
      revert hA
      generalize cutS (SX.S bs) none (some r4) ++ SX.S s1 ++ cutS (SX.S bs) (some (r4 + 1)) none = zA
      intro hA
      have ep6 := k6 _ _ offp.1 offp.2 ep5
      have kx6 := kx5.trans k6
      -- the first change
      refine ⟨fun σ' H' => ∃ (z : Str) (t7 : Int), σ' = [some (.ref d), some (.int m), some (.int (4 + r1)), some (.int fw), some (.str (SX.S bs)), some (.ref p), some (.int (0 + (i : Int))), some (.int r3), some (.int r4), some (.str z)] ∧ TxG 1 10 z ∧ H' p = some (.lst (txs ms)) ∧ t' ≤ t7 ∧ t7 ≤ t' + 44 ∧ StAt H' d c t7 ∧ Kp d c H H', ?_, ?_⟩
      · refine ⟨_, rfl, rfl, _, rfl, ite2 (fun c1 => ?_) (fun c1 => ?_)⟩
        · refine ⟨_, rfl, _, rfl, d, c, t6, 7, rfl, hS6, by omega, by decide, by decide, fun r5 H7 r50 r51 hS7 k7 => ?_⟩
          refine ⟨4, r5, rfl, rfl, _, rfl, d, c, t6 + 1, 4 + r5, fw, rfl, hS7, by omega, by omega, by omega, by omega, by omega, fun s2 H8 t8 hs2 ho2 w2 w3 hS8 k8 => ?_⟩
          exact ⟨_, t8, rfl, .of (by omega) (by omega) ho2, k8 _ _ offp.1 offp.2 (k7 _ _ offp.1 offp.2 ep6), by omega, by omega, hS8, (kx6.trans k7).trans k8⟩
        · exact ⟨zA, t6, rfl, hA.mono (by decide) (by decide), ep6, by omega, by omega, hS6, kx6⟩
      rintro σ7 H7 ⟨zB, t7, rfl, hZB, ep7, w2, w3, hS7, kx7⟩
      -- the second change
      refine ⟨fun σ' H' => ∃ (z : Str) (t8 : Int), σ' = [some (.ref d), some (.int m), some (.int (4 + r1)), some (.int fw), some (.str (SX.S bs)), some (.ref p), some (.int (0 + (i : Int))), some (.int r3), some (.int r4), some (.str z)] ∧ TxG 1 10 z ∧ H' p = some (.lst (txs ms)) ∧ t' ≤ t8 ∧ t8 ≤ t' + 70 ∧ StAt H' d c t8 ∧ Kp d c H H', ?_, ?_⟩
      · refine ⟨_, rfl, rfl, _, rfl, ite2 (fun c1 => ?_) (fun c1 => ?_)⟩
        · refine ⟨_, rfl, _, rfl, _, rfl, d, c, t7, 6, fw, rfl, hS7, by omega, by decide, by decide, by omega, by omega, fun s2 H8 t8 hs2 ho2 w4 w5 hS8 k8 => ?_⟩
          have h2 : TxG 6 6 (SX.S s2) := .of (by omega) (by omega) ho2
          refine ⟨_, _, rfl, rfl, hZB.fit h2 (by decide), ?_⟩
          refine ⟨_, rfl, d, c, t8, 7, rfl, hS8, by omega, by decide, by decide, fun r5 H9 r50 r51 hS9 k9 => ?_⟩
          refine ⟨4, r5, rfl, rfl, _, rfl, _, rfl, (hZB.cat h2).fits (by decide), ?_⟩
          exact ⟨_, t8 + 1, rfl, (hZB.cat h2).cutTo2 (by decide) (by omega) (by omega), k9 _ _ offp.1 offp.2 (k8 _ _ offp.1 offp.2 ep7), by omega, by omega, hS9, (kx7.trans k8).trans k9⟩
        · exact ⟨zB, t7, rfl, hZB.mono (by decide) (by decide), ep7, by omega, by omega, hS7, kx7⟩
      rintro σ8 H8 ⟨zC, t8, rfl, hZC, ep8, w4, w5, hS8, kx8⟩
      -- the third change
      refine ⟨fun σ' H' => ∃ (z : List Nat), σ' = [some (.ref d), some (.int m), some (.int (4 + r1)), some (.int fw), some (.str (SX.S bs)), some (.ref p), some (.int (0 + (i : Int))), some (.int r3), some (.int r4), some (.str (SX.S z))] ∧ 1 ≤ z.length ∧ z.length ≤ 10 ∧ okS z ∧ H' = H8, ?_, ?_⟩
      · refine ⟨_, rfl, rfl, _, rfl, ite2 (fun c1 => ?_) (fun c1 => ?_)⟩
        · have hz8 := hZC.fits (by decide)
          refine ⟨_, rfl, _, rfl, _, rfl, hz8, _, rfl, _, rfl, _, rfl, hz8, _, _, rfl, rfl, (hZC.cut _ _).fit (hZC.cut _ _) (by decide), ?_⟩
          obtain ⟨z, e, h0, hl, ho⟩ := hZC.turn
          exact ⟨z, by rw [← e]; rfl, h0, by omega, ho, rfl⟩
        · obtain ⟨z, rfl, h0, hl, ho⟩ := hZC
          exact ⟨z, rfl, h0, by omega, ho, rfl⟩
      rintro σ9 H9 ⟨z, rfl, hz0, hzl, hzo, rfl⟩
      refine ⟨_, rfl, _, rfl, p, _, rfl, .inl (SqL.of ep8), rfl, flat_txs ms, _, rfl, ite2 (fun c1 => ?_) (fun c1 => ?_)⟩
      · refine ⟨_, rfl, p, _, rfl, .inl (SqL.of ep8), _, rfl, _, _, rfl, rfl, _, rfl, ite2 (fun c2 => ?_) (fun c2 => ?_)⟩
        · have lt : (ms.length : Int) < m := by
            have := of_decide_eq_true c2
            rwa [List.length_map] at this
          refine ⟨_, rfl, .inl ⟨rfl, _, SqL.of ep8⟩, _, rfl, p, _, _, rfl, rfl, ep8, small1000 (by rw [List.length_map]; omega), ?_⟩
          refine ⟨t8, ms ++ [z], _, _, _, _, rfl, by rw [upd_same, txs_snoc], fun _ => by simp, by rw [List.length_append]; show ((ms.length + 1 : Nat) : Int) ≤ m; omega, ⟨fun x hx => ?_, ?_⟩, by omega, by omega, hS8.upd offp.1 offp.2, fun b o b1 b2 e => ?_⟩
          · rcases List.mem_append.mp hx with y | y
            · exact hall.1 x y
            · rw [List.mem_singleton.mp y]; exact ⟨hz0, hzl, hzo⟩
          · have nin : z ∉ ms := fun y => by
              have c1 : (!inV (.str (SX.S z)) (txs ms)) = true := c1
              rw [inV_txs, decide_eq_true y] at c1
              cases c1
            rw [List.nodup_append]
            exact ⟨hall.2, by simp, fun a ha b hb => by
              rw [List.mem_singleton.mp hb]
              exact fun y => nin (y ▸ ha)⟩
          · have nb : b ≠ p := fun z => by
              have e3 := k03 b o b1 b2 e
              rw [z, np] at e3
              cases e3
            rw [upd_ne nb]
            exact kx8 b o b1 b2 e
        · refine ⟨t8, ms, _, _, _, _, rfl, ep8, fun _ => ?_, hml, hall, by omega, by omega, hS8, kx8⟩
          rcases Nat.eq_zero_or_pos ms.length with y | y
          · exact absurd (decide_eq_true (by rw [List.length_map, y]; show (0 : Int) < m; omega)) c2
          · exact y
      · refine ⟨t8, ms, _, _, _, _, rfl, ep8, fun _ => ?_, hml, hall, by omega, by omega, hS8, kx8⟩
        cases ms with
        | nil => exact absurd rfl c1
        | cons => simp
    · obtain ⟨t', ms, y6, y7, y8, y9, rfl, ep, hne, hml, hall, v0, v1, hSx, kx⟩ := hP
      have npH : H p = none := k03.free hS3 np
      exact ⟨_, rfl, q ms p Hx t' (fun hm => hne (by omega)) (by omega) hall npH ep (by omega) (by omega) hSx kx⟩
end

/-! ## generator expressions: a frame of their own, its rules those of any body -/
namespace GX
open PySem PySem.Spec PyProof.Rows L2 GenW
/-- the object at c is a code object with its table at P -/
def CodeG (c P : Addr) : HO := .ext fun h => PySem.W.CodeHd h c P
theorem codeG_ne {c P : Addr} (ps : Array Value) : CodeG c P ≠ .tbl ps := fun z => by
  unfold CodeG at z
  cases z
/-- all but tables stands, tables stay tables -/
structure NoTab (H H2 : Hp) : Prop where
  keep : ∀ b o, H b = some o → (∀ ps, o ≠ .tbl ps) → H2 b = some o
  tab : ∀ b ps, H b = some (.tbl ps) → ∃ qs, H2 b = some (.tbl qs)
theorem NoTab.refl (H : Hp) : NoTab H H := ⟨fun _ _ e _ => e, fun _ ps e => ⟨ps, e⟩⟩
theorem NoTab.trans {H H1 H2 : Hp} (a : NoTab H H1) (b : NoTab H1 H2) : NoTab H H2 := ⟨fun x o e n => b.keep x o (a.keep x o e n) n, fun x ps e => let ⟨qs, e1⟩ := a.tab x ps e; b.tab x qs e1⟩
theorem NoTab.of {H H1 : Hp} (k : ∀ b o, H b = some o → H1 b = some o) : NoTab H H1 := ⟨fun b o e _ => k b o e, fun b ps e => ⟨ps, k _ _ e⟩⟩
theorem NoTab.free {H H1 : Hp} {p : Addr} (n : NoTab H H1) (h : H1 p = none) : H p = none := by
  cases e : H p with
  | none => rfl
  | some o =>
    by_cases ct : ∃ q, o = .tbl q
    · obtain ⟨q, rfl⟩ := ct
      obtain ⟨qs, e1⟩ := n.tab p q e
      rw [h] at e1
      cases e1
    · have e1 := n.keep p o e fun ps z => ct ⟨ps, z⟩
      rw [h] at e1
      cases e1
theorem NoTab.lst {H H1 : Hp} {a : Addr} {xs : List V} (n : NoTab H H1) (e : H a = some (.lst xs)) : H1 a = some (.lst xs) := n.keep _ _ e fun _ z => nomatch z
theorem NoTab.tup {H H1 : Hp} {a : Addr} {xs : List V} (n : NoTab H H1) (e : H a = some (.tup xs)) : H1 a = some (.tup xs) := n.keep _ _ e fun _ z => nomatch z
theorem NoTab.code {H H1 : Hp} {a c P : Addr} (n : NoTab H H1) (e : H a = some (CodeG c P)) : H1 a = some (CodeG c P) := n.keep _ _ e codeG_ne
theorem NoTab.sqL {K : PySem.W.Frag} {H H1 : Hp} {a : Addr} {xs : List V} (n : NoTab H H1) (h : SqL K H a xs) : SqL K H1 a xs :=
  h.elim (fun z => z.elim (fun e => .inl (.inl (n.lst e))) fun ⟨o, e⟩ => .inl (.inr ⟨o, n.keep _ _ e fun _ z => nomatch z⟩)) .inr
theorem NoTab.sqT {K : PySem.W.Frag} {H H1 : Hp} {a : Addr} {xs : List V} (n : NoTab H H1) (h : SqT K H a xs) : SqT K H1 a xs :=
  h.elim (fun z => z.elim (fun e => .inl (.inl (n.tup e))) fun ⟨o, e⟩ => .inl (.inr ⟨o, n.keep _ _ e fun _ z => nomatch z⟩)) .inr
/-- a list that was new may change -/
theorem NoTab.new {H H1 : Hp} {a : Addr} {o : HO} (n : NoTab H H1) (e : H a = none) : NoTab H (L2.upd H1 a o) :=
  ⟨fun b u hb nt => by rw [upd_ne (ne_of_none hb e)]; exact n.keep b u hb nt, fun b ps hb => let ⟨qs, e1⟩ := n.tab b ps hb; ⟨qs, by rw [upd_ne (ne_of_none hb e)]; exact e1⟩⟩
/-- the table at P: each code object that it tells is known, and its own table, which is none of Xs -/
def TabQ (Xs : List Addr) (H : Hp) (P : Addr) : Prop := ∃ ps : Array Value, H P = some (.tbl ps) ∧ TriplesOk ps.toList ∧ ∀ (pos : Pos) (cv : Value), codeAmong pos ps.toList = some cv → ∃ c' P', cv = .ref c' ∧ H c' = some (CodeG c' P') ∧ P' ∉ Xs ∧ GxR.TabG H P'
theorem TabQ.nil {Xs : List Addr} {H : Hp} {P : Addr} (h : H P = some (.tbl #[])) : TabQ Xs H P := ⟨#[], h, True.intro, fun pos cv hc => by
  have z : codeAmong pos [] = some cv := hc
  simp [codeAmong] at z⟩
/-- the tables at Ms, of the defs that hold generator expressions; Xs: all tables of defs -/
structure TQ (Ms Xs : List Addr) (H : Hp) : Prop where
  all : ∀ x ∈ Xs, ∃ ps, H x = some (.tbl ps)
  gx : ∀ m ∈ Ms, TabQ Xs H m ∧ m ∈ Xs
theorem tabG_same {H H2 : Hp} {P : Addr} (h : GxR.TabG H P) (k : ∀ b o, H b = some o → H2 b = some o) : GxR.TabG H2 P := let ⟨ps, a, b⟩ := h; ⟨ps, k _ _ a, b⟩
theorem TQ.same {Ms Xs : List Addr} {H H2 : Hp} (h : TQ Ms Xs H) (k : ∀ b o, H b = some o → H2 b = some o) : TQ Ms Xs H2 := by
  refine ⟨fun x hx => let ⟨ps, e⟩ := h.all x hx; ⟨ps, k _ _ e⟩, fun m hm => ?_⟩
  obtain ⟨⟨ps, a, b, c⟩, hx⟩ := h.gx m hm
  refine ⟨⟨ps, k _ _ a, b, fun pos cv hc => ?_⟩, hx⟩
  obtain ⟨c', P', e1, e2, e3, e4⟩ := c pos cv hc
  exact ⟨c', P', e1, k _ _ e2, e3, tabG_same e4 k⟩
/-- all that is no table may change, where no code object does -/
theorem TQ.keep {Ms Xs : List Addr} {H H2 : Hp} (h : TQ Ms Xs H) (k : ∀ b ps, H b = some (.tbl ps) → H2 b = some (.tbl ps)) (kc : ∀ b c P, H b = some (CodeG c P) → H2 b = some (CodeG c P)) : TQ Ms Xs H2 := by
  refine ⟨fun x hx => let ⟨ps, e⟩ := h.all x hx; ⟨ps, k _ _ e⟩, fun m hm => ?_⟩
  obtain ⟨⟨ps, a, b, c⟩, hx⟩ := h.gx m hm
  refine ⟨⟨ps, k _ _ a, b, fun pos cv hc => ?_⟩, hx⟩
  obtain ⟨c', P', e1, e2, e3, q, f1, f2⟩ := c pos cv hc
  exact ⟨c', P', e1, kc _ _ _ e2, e3, q, k _ _ f1, f2⟩
theorem TQ.upd {Ms Xs : List Addr} {H : Hp} {l : Addr} {xs : List V} {o : HO} (h : TQ Ms Xs H) (e : H l = some (.lst xs)) : TQ Ms Xs (L2.upd H l o) :=
  h.keep (fun b ps hb => by rw [upd_ne (ne_of hb e (fun z => nomatch z))]; exact hb) (fun b c P hb => by rw [upd_ne (ne_of hb e (fun z => by unfold CodeG at z; cases z))]; exact hb)
/-- all but the object at P stands -/
def But (P : Addr) (H H2 : Hp) : Prop := ∀ b o, b ≠ P → H b = some o → H2 b = some o
theorem But.noTab {P : Addr} {H H2 : Hp} (h : But P H H2) {q q2 : Array Value} (e : H P = some (.tbl q)) (e2 : H2 P = some (.tbl q2)) : NoTab H H2 :=
  ⟨fun b o hb n => h b o (fun z => n q (by rw [z, e] at hb; exact (Option.some.inj hb).symm)) hb, fun b ps hb => by
    by_cases z : b = P
    · exact ⟨q2, by rw [z]; exact e2⟩
    · exact ⟨ps, h b _ z hb⟩⟩
/-- a table that is none of a def's has grown -/
theorem TQ.but {Ms Xs : List Addr} {H H2 : Hp} {P : Addr} (h : TQ Ms Xs H) (n : P ∉ Xs) (t : GxR.TabG H P) (t2 : GxR.TabG H2 P) (k : But P H H2) : TQ Ms Xs H2 := by
  obtain ⟨q0, hq0, _⟩ := t
  refine ⟨fun x hx => let ⟨ps, e⟩ := h.all x hx; ⟨ps, k _ _ (fun z => n (z ▸ hx)) e⟩, fun m hm => ?_⟩
  obtain ⟨⟨ps, a, b, c⟩, hx⟩ := h.gx m hm
  refine ⟨⟨ps, k _ _ (fun z => n (z ▸ hx)) a, b, fun pos cv hc => ?_⟩, hx⟩
  obtain ⟨c', P', e1, e2, e3, e4⟩ := c pos cv hc
  refine ⟨c', P', e1, k _ _ (ne_of e2 hq0 (codeG_ne q0)) e2, e3, ?_⟩
  by_cases e : P' = P
  · rw [e]; exact t2
  · obtain ⟨q, h1, h2⟩ := e4
    exact ⟨q, k _ _ e h1, h2⟩
section
variable {X : Cx} {pins : List (Addr × Obj)} {σ : L2.St} {H : Hp} {s : Shared}
theorem codeHd_stay {c P : Addr} {h1 h2 : Heap} (x : PySem.W.CodeHd h1 c P) (k : ∀ o, h1.get? c = some o → h2.get? c = some o) : PySem.W.CodeHd h2 c P :=
  let ⟨o, vs, file, tf, flags, tg, inF, text, tt, e, r⟩ := x; ⟨o, vs, file, tf, flags, tg, inF, text, tt, k _ e, r⟩
/-- the table's object is written, the code object at c and its table at P2 are new -/
theorem inv_code {P c P2 : Addr} {ps more : Array Value} {h' : Heap} {t' : Nat} (I : Inv X pins σ H s) (hP : H P = some (.tbl ps)) (k : ∀ b o, b ≠ P → s.heap.get? b = some o → h'.get? b = some o)
    (hm : h'.get? P = some { cls := .none, data := .fields (ps ++ more) }) (hc : s.heap.objs.size ≤ c) (hp2 : s.heap.objs.size ≤ P2) (ncp : c ≠ P2) (ho : PySem.W.CodeHd h' c P2) (hq : h'.get? P2 = some { cls := .none, data := .fields #[] }) :
    Inv X pins σ (upd (upd (upd H P (.tbl (ps ++ more))) c (CodeG c P2)) P2 (.tbl #[])) { s with heap := h', toks := t' } := by
  have nC : H c = none := I.hok.fresh hc
  have nQ : H P2 = none := I.hok.fresh hp2
  have nPc : P ≠ c := ne_of_none hP nC
  have nPq : P ≠ P2 := ne_of_none hP nQ
  have at_ : ∀ b, b ≠ P → b ≠ c → b ≠ P2 → upd (upd (upd H P (.tbl (ps ++ more))) c (CodeG c P2)) P2 (.tbl #[]) b = H b := fun b h1 h2 h3 => by rw [upd_ne h3, upd_ne h2, upd_ne h1]
  have atP : upd (upd (upd H P (.tbl (ps ++ more))) c (CodeG c P2)) P2 (.tbl #[]) P = some (.tbl (ps ++ more)) := by rw [upd_ne nPq, upd_ne nPc, upd_same]
  have nP : ∀ b u, H b = some u → (∀ q, u ≠ .tbl q) → b ≠ P := fun b u e q z => by
    rw [z, hP] at e
    exact q ps (Option.some.inj e).symm
  have nN : ∀ b, H b = none → b ≠ P := fun b e z => by
    rw [z, hP] at e
    cases e
  have lt' : ∀ b o, s.heap.get? b = some o → b ≠ c ∧ b ≠ P2 := fun b o e => ⟨fun z => by
    rw [z] at e
    exact Nat.lt_irrefl _ (Nat.lt_of_lt_of_le (Heap.lt_size e) hc), fun z => by
    rw [z] at e
    exact Nat.lt_irrefl _ (Nat.lt_of_lt_of_le (Heap.lt_size e) hp2)⟩
  have sm : ∀ b u, H b = some u → b ≠ c ∧ b ≠ P2 := fun b u e => ⟨ne_of_none e nC, ne_of_none e nQ⟩
  refine I.step (g' := s.gens) (d' := s.drawn) (ch := []) (fun b hb => absurd hb (by simp)) (fun b o _ _ _ e n => k b o (nN b n) e) (fun b o _ _ _ e n => ⟨o.slots, k b o (nN b n) e⟩)
    (fun b o _ e n => by rw [at_ b (nN b n) (lt' b o e).1 (lt' b o e).2]; exact n) (fun b o _ e => ?_) (fun b xs e => by rw [at_ b (nP b _ e (fun q z => by cases z)) (sm b _ e).1 (sm b _ e).2]; exact e) (fun b o u e => by rw [at_ b (nP b _ e (fun q z => by cases z)) (sm b _ e).1 (sm b _ e).2]; exact e) (fun b qs e => ?_) (fun m hn => ?_) (fun b u e => ?_) I.bare
  · by_cases hb : b = P
    · rw [hb]
      exact ⟨_, hm⟩
    · exact ⟨o, k b o hb e⟩
  · by_cases hb : b = P
    · rw [hb, hP] at e
      cases e
      rw [hb, atP]
      exact ⟨more, rfl⟩
    · rw [at_ b hb (sm b _ e).1 (sm b _ e).2, e]
      exact ⟨#[], by simp⟩
  · obtain ⟨ob, es, ep, ho, r⟩ := hn
    exact ⟨ob, es, ep, k _ ob (nN _ I.free) ho, r⟩
  · by_cases hb2 : b = P2
    · rw [hb2, upd_same] at e
      cases e
      rw [hb2]
      exact hq
    · by_cases hb : b = c
      · rw [hb, upd_ne ncp, upd_same] at e
        cases e
        rw [hb]
        refine ⟨ho, ?_, fun h1 h2 a st => codeHd_stay a st⟩
        obtain ⟨o, _, _, _, _, _, _, _, _, e, _⟩ := ho
        exact ⟨o, e⟩
      · by_cases hbP : b = P
        · rw [hbP, atP] at e
          cases e
          rw [hbP]
          exact hm
        · rw [at_ b hbP hb hb2] at e
          refine (I.hok b u e).stay (fun d v hd q => k d v ?_ q) (fun d q => by rw [at_ d (nP d _ q (fun q z => by cases z)) (sm d _ q).1 (sm d _ q).2]; exact q) fun d xs q => by rw [at_ d (nP d _ q (fun q z => by cases z)) (sm d _ q).1 (sm d _ q).2]; exact q
          rcases hd with z | z
          · rw [z]
            exact hbP
          · exact nP d _ z (fun q z => by cases z)
end
/-- the making of a generator expression's code object, as it is read -/
abbrev TC := L2.St → Hp → (Value → Hp → Prop) → Prop
structure PC (X : Cx) (gpos : Pos) (scope : Scope) (tc : TC) : Prop where
  run : ∀ (pins : List (Addr × Obj)) (s : Shared) (σ : L2.St) (H : Hp) (Q : Value → Hp → Prop) (E : Value → Shared → Prop), Inv X pins σ H s → tc σ H Q →
    wpAny (model X.prog X.w) X.A (genexprCode X.env gpos (X.env.qual ++ "<genexpr>") scope) (fun code s' => ∃ H', Inv X pins σ H' s' ∧ s.heap.objs.size ≤ s'.heap.objs.size ∧ Q code H') E s
/-- of a def's own code object -/
def tCo (Ms Xs : List Addr) (P : Addr) : TC := fun _ H Q => TQ Ms Xs H ∧ P ∈ Ms ∧ ∀ (H2 : Hp) (c' P' : Addr), NoTab H H2 → TQ Ms Xs H2 → P' ∉ Xs → H2 c' = some (CodeG c' P') → GxR.TabG H2 P' → Q (.ref c') H2
theorem pc_own {X : Cx} {Ms Xs : List Addr} {c P : Addr} {gpos : Pos} {scope : Scope} (TB : GxR.TabB X.base X.mg c P) (hcode : X.env.code = .ref c) : PC X gpos scope (tCo Ms Xs P) := by
  refine ⟨fun pins s σ H Q E I h => ?_⟩
  obtain ⟨tq, hPm, q⟩ := h
  obtain ⟨⟨ps, hP, ok, kn⟩, hPx⟩ := tq.gx P hPm
  have hP' : s.heap.get? P = some { cls := .none, data := .fields ps } := I.hok P _ hP
  have C := TB.code.keeps I.bk
  cases found : codeAmong gpos ps.toList with
  | some old =>
    obtain ⟨c', P', rfl, e2, e3, e4⟩ := kn gpos _ found
    exact wpAny_genexprCode_hit hcode (C.code hP' ok) found ⟨H, I, Nat.le_refl _, q H c' P' (NoTab.refl _) tq e3 e2 e4⟩
  | none =>
    refine wpAny_genexprCodeX hcode (C.code hP' ok) (C.tab hP') found fun c' h' tk ext le lt isC _ tab ⟨P', le2, isC2, tab2⟩ => ?_
    obtain ⟨_, _, _, _, _, _, _, _, _, _, _, _, _, _, _, _, _, _, _, okT, _⟩ := isC
    have hd2 := PySem.W.CodeHd.of isC2 tab2
    have ncp : c' ≠ P' := by
      obtain ⟨_, _, _, _, _, _, _, _, _, _, _, _, _, _, _, _, _, _, hne⟩ := hd2
      exact hne
    have J := inv_code (t' := tk) I hP (fun b o hb e => ext b o hb e) tab.2 le le2 ncp hd2 tab2.2
    have nC : H c' = none := I.hok.fresh le
    have nQ : H P' = none := I.hok.fresh le2
    have nPc : P ≠ c' := ne_of_none hP nC
    have nPq : P ≠ P' := ne_of_none hP nQ
    have nX : P' ∉ Xs := fun z => by
      obtain ⟨ps0, e⟩ := tq.all P' z
      rw [nQ] at e
      cases e
    have eL : (ps ++ #[rawInt gpos.line, rawInt gpos.col, .ref c']).toList = ps.toList ++ [rawInt gpos.line, rawInt gpos.col, .ref c'] := by simp
    have kp : But P H (upd (upd (upd H P (.tbl (ps ++ #[rawInt gpos.line, rawInt gpos.col, .ref c']))) c' (CodeG c' P')) P' (.tbl #[])) := fun b o hb e => by
      rw [upd_ne (ne_of_none e nQ), upd_ne (ne_of_none e nC), upd_ne hb]
      exact e
    have eC : upd (upd (upd H P (.tbl (ps ++ #[rawInt gpos.line, rawInt gpos.col, .ref c']))) c' (CodeG c' P')) P' (.tbl #[]) c' = some (CodeG c' P') := by rw [upd_ne ncp, upd_same]
    have tG : GxR.TabG (upd (upd (upd H P (.tbl (ps ++ #[rawInt gpos.line, rawInt gpos.col, .ref c']))) c' (CodeG c' P')) P' (.tbl #[])) P' := ⟨#[], upd_same, True.intro⟩
    have eP : upd (upd (upd H P (.tbl (ps ++ #[rawInt gpos.line, rawInt gpos.col, .ref c']))) c' (CodeG c' P')) P' (.tbl #[]) P = some (.tbl (ps ++ #[rawInt gpos.line, rawInt gpos.col, .ref c'])) := by rw [upd_ne nPq, upd_ne nPc, upd_same]
    have sub : ∀ c0 P0, H c0 = some (CodeG c0 P0) → P0 ∉ Xs → GxR.TabG H P0 → GxR.TabG (upd (upd (upd H P (.tbl (ps ++ #[rawInt gpos.line, rawInt gpos.col, .ref c']))) c' (CodeG c' P')) P' (.tbl #[])) P0 := fun c0 P0 _ e3 ⟨q0, f1, f2⟩ => ⟨q0, kp _ _ (fun z => e3 (z ▸ hPx)) f1, f2⟩
    refine ⟨_, J, Nat.le_trans le (Nat.le_of_lt lt), q _ c' P' (kp.noTab hP eP) ⟨fun x hx => ?_, fun m hm => ?_⟩ nX eC tG⟩
    · by_cases e : x = P
      · exact ⟨_, by rw [e]; exact eP⟩
      · obtain ⟨ps0, e0⟩ := tq.all x hx
        exact ⟨ps0, kp _ _ e e0⟩
    · by_cases e : m = P
      · subst e
        refine ⟨⟨_, eP, okT, fun pos cv hcv => ?_⟩, hPx⟩
        rw [eL] at hcv
        rcases LamX.among_app _ ok hcv with z | z
        · obtain ⟨c0, P0, e1, e2, e3, e4⟩ := kn pos cv z
          exact ⟨c0, P0, e1, kp _ _ (ne_of e2 hP (codeG_ne ps)) e2, e3, sub c0 P0 e2 e3 e4⟩
        · exact ⟨c', P', z, eC, nX, tG⟩
      · obtain ⟨⟨ps0, a, b, c⟩, hx⟩ := tq.gx m hm
        refine ⟨⟨ps0, kp _ _ e a, b, fun pos cv hc => ?_⟩, hx⟩
        obtain ⟨c0, P0, e1, e2, e3, e4⟩ := c pos cv hc
        exact ⟨c0, P0, e1, kp _ _ (ne_of e2 hP (codeG_ne ps)) e2, e3, sub c0 P0 e2 e3 e4⟩
/-- of the code object of the generator expression around -/
def tCj (Ms Xs : List Addr) (code : Value) : TC := fun _ H Q => ∃ c P, code = .ref c ∧ H c = some (CodeG c P) ∧ P ∉ Xs ∧ GxR.TabG H P ∧ TQ Ms Xs H ∧ ∀ (H2 : Hp) (code' : Value), NoTab H H2 → TQ Ms Xs H2 → GxR.TabG H2 P → Q code' H2
theorem pc_in {X : Cx} {Ms Xs : List Addr} {code : Value} {gpos : Pos} {scope : Scope} (hcode : X.env.code = code) : PC X gpos scope (tCj Ms Xs code) := by
  refine ⟨fun pins s σ H Q E I h => ?_⟩
  obtain ⟨c, P, ec, hC, nX, ⟨ps, hP, ok⟩, tq, q⟩ := h
  rw [ec] at hcode
  have hP' : s.heap.get? P = some { cls := .none, data := .fields ps } := I.hok P _ hP
  have C : PySem.W.CodeHd s.heap c P := (I.hok c _ hC).1
  cases found : codeAmong gpos ps.toList with
  | some old => exact wpAny_genexprCode_hit hcode (C.code hP' ok) found ⟨H, I, Nat.le_refl _, q H _ (NoTab.refl _) tq ⟨ps, hP, ok⟩⟩
  | none =>
    refine wpAny_genexprCodeX hcode (C.code hP' ok) (C.tab hP') found fun c' h' tk ext le lt isC _ tab _ => ?_
    obtain ⟨_, _, _, _, _, _, _, _, _, _, _, _, _, _, _, _, _, _, _, okT, _⟩ := isC
    have J := GxR.inv_tab (more := #[rawInt gpos.line, rawInt gpos.col, .ref c']) (g' := s.gens) (d' := s.drawn) (t' := tk) I hP (fun b o hb e => ext b o hb e) tab.2 I.bare
    have kp : But P H (upd H P (.tbl (ps ++ #[rawInt gpos.line, rawInt gpos.col, .ref c']))) := fun b o hb e => by rw [upd_ne hb]; exact e
    have t2 : GxR.TabG (upd H P (.tbl (ps ++ #[rawInt gpos.line, rawInt gpos.col, .ref c']))) P := ⟨_, upd_same, okT⟩
    exact ⟨_, J, Nat.le_trans le (Nat.le_of_lt lt), q _ _ (kp.noTab hP upd_same) (tq.but nX ⟨ps, hP, ok⟩ t2 kp) t2⟩
end GX

namespace GX
open PySem PySem.Spec PyProof.Rows L2 GenW
/-- the context of a generator expression's frame, which runs in the around B -/
abbrev gcx (X : Cx) (B : Around) (s : Shared) (H : Hp) (scope : Scope) (genv : Env) (fp : List Addr) : Cx :=
  { X with A := B, s_0 := s, H_0 := H, env := genv, outer := X.stack, stack := genv :: X.stack, ex := fp, fn := fun x => scope.names.lookup x == some .cell, calm := true, pn := [], xe := fun _ _ => False }
/-- the names of a generator expression: its own (with their places in N), or captured -/
structure GOk (N : List Str) (sc scope : Scope) (own : List (Str × Nat)) : Prop where
  blk : BlkOk N sc scope own
  dot : scope.names.lookup (".0" : Str) = some .local
  co : scope.isCoroutine = false
def gokB (N : List Str) (sc scope : Scope) (own : List (Str × Nat)) : Bool := blkC N sc scope own && decide (scope.names.lookup (".0" : Str) = some .local) && !scope.isCoroutine
theorem gok_by {N : List Str} {sc scope : Scope} {own : List (Str × Nat)} (h : gokB N sc scope own = true) : GOk N sc scope own := by
  unfold gokB at h
  simp only [Bool.and_eq_true, Bool.not_eq_true', decide_eq_true_eq] at h
  exact ⟨blkOk_by h.1.1, h.1.2, h.2⟩
abbrev frameH (h : Heap) (names : List (Str × NameKind)) : Heap := pushCells (h.push { cls := .type "frame", data := .dict #[] }) names
theorem newGenEnv {M : Model} {A : Around} {E : Value → Shared → Prop} {s : Shared} {scope : Scope} {globals : Addr} {cl : List (Str × Addr)} {qual : Str} {code it : Value} {bi : Addr} {Q : Env → Shared → Prop} (hk : scope.kind = .function) (h0 : scope.names.lookup (".0" : Str) = some .local)
    (h : ∀ h', h'.Ns s.heap.objs.size (fun y => if y = (".0" : Str) then some it else none) → Heap.SameBut s.heap.objs.size (frameH s.heap scope.names) h' →
      Q { scope, locals := s.heap.objs.size, globals, cells := cellsFrom (s.heap.objs.size + 1) scope.names cl, qual, func := none, code, frame := some s.heap.objs.size, builtins := bi } { s with heap := h', toks := s.toks + 1 }) :
    wpAny M A (newFunctionEnv scope globals cl [(".0", it)] qual none code none bi) Q E s := by
  simp only [newFunctionEnv, Option.isSome_none, Bool.false_eq_true, if_false]
  refine wpAny_bind (wpAny_alloc ?_)
  refine wpAny_bind (wpAny_layCells _ (fun name kind cells => by cases hkc : kind == NameKind.cell <;> simp [hkc]) _ _ _ _ ?_)
  rw [show ({ s with heap := s.heap.push { cls := .type "frame", data := .dict #[] } } : Shared).heap.objs.size = s.heap.objs.size + 1 from Heap.size_push ..]
  rw [List.forIn_cons]
  refine wpAny_bind (wpAny_bind (wpAny_bind (wpAny_storeName_local (m := fun _ => none) h0 ((Heap.Ns.new s.heap (.type "frame")).keeps (pushCells_keeps _ _)) (fun h' hn' hs' => ?_) (by
    show (scope.kind == .class || (scope.kind == .module && _)) = false
    rw [hk]; rfl))))
  refine wpAny_pure ?_
  dsimp only
  rw [List.forIn_nil]
  exact wpAny_pure (wpAny_pure (h h' hn' hs'))
abbrev gEnv (X : Cx) (scope : Scope) (s : Shared) (code : Value) : Env := genEnv scope (cellsFrom (s.heap.objs.size + 1) scope.names (cloFrom X.env.cells scope.names [])) s.heap.objs.size code builtinsNs X.env
section
variable {X : Cx} {pins : List (Addr × Obj)} {σ : L2.St} {H : Hp} {s : Shared}
/-- what the around of the frame is to be -/
structure BOk (X : Cx) (B : Around) (genv : Env) : Prop where
  hd : B.handled = none
  fr : B.frames = some (genv :: X.stack)
theorem gx_start {B : Around} {scope : Scope} {own : List (Str × Nat)} {fp : List Addr} {code it : Value} {h' : Heap} {t' : Nat} (I : Inv X pins σ H s) (ok : GOk X.N X.env.scope scope own) (hN : X.N.Nodup) (hfp : ∀ b ∈ fp, FpOk X pins H b ∧ b < s.heap.objs.size)
    (hB : BOk X B (gEnv X scope s code)) (hn' : h'.Ns s.heap.objs.size (fun y => if y = (".0" : Str) then some it else none)) (hs' : Heap.SameBut s.heap.objs.size (frameH s.heap scope.names) h') :
    Inv (gcx X B s H scope (gEnv X scope s code) fp) [] (wipe σ (own.map (·.2))) H { s with heap := h', toks := t' } := by
  obtain ⟨ok, hdot, hco⟩ := ok
  have hfree : ∀ y ∈ scope.names, y.2 = .free → ∃ c, X.env.cells.lookup y.1 = some c := fun y hy e => by
    rcases ok.free y hy e with k | k
    · exact I.ok.has _ (.inl k)
    · exact I.ok.has _ (.inr k)
  generalize hcenv : gEnv X scope s code = cenv at hB ⊢
  have kp0 : ∀ b o, s.heap.get? b = some o → (frameH s.heap scope.names).get? b = some o := fun b o e => pushCells_keeps _ _ _ _ (Heap.get?_push_of_some _ e)
  have kp : ∀ b o, s.heap.get? b = some o → h'.get? b = some o := fun b o e => hs'.extBut b o (Nat.ne_of_lt (Heap.lt_size e)) (kp0 b o e)
  have hL : cenv.locals = s.heap.objs.size := by rw [← hcenv]; rfl
  have hcl : cenv.cells = cellsFrom (s.heap.objs.size + 1) scope.names (cloFrom X.env.cells scope.names []) := by rw [← hcenv]; rfl
  have hsc : cenv.scope = scope := by rw [← hcenv]; rfl
  rw [← Heap.size_push s.heap { cls := .type "frame", data := .dict #[] }] at hcl
  have cm : ∀ {y c}, (y, c) ∈ cloFrom X.env.cells scope.names [] → X.env.cells.lookup y = some c ∧ c < s.heap.objs.size := fun {y c} hm => by
    rcases cloFrom_mem hm with hm | ⟨h1, rfl⟩
    · cases hm
    · obtain ⟨c, hc⟩ := hfree _ h1 rfl
      rw [hc]
      obtain ⟨w, z⟩ := I.cell _ _ hc
      exact ⟨rfl, z.lt⟩
  have mem : ∀ {y c}, cenv.cells.lookup y = some c → (X.env.cells.lookup y = some c ∧ c < s.heap.objs.size) ∨ (s.heap.objs.size + 1 ≤ c ∧ CellAt h' c none) := fun {y c} e => by
    rw [hcl] at e
    rcases cells_mem (PySem.mem_of_lookup e) with hm | ⟨_, h2, h3⟩
    · exact .inl (cm hm)
    · rw [Heap.size_push] at h2
      exact .inr ⟨h2, h3.sameBut hs' (Nat.ne_of_gt h2)⟩
  have look : ∀ {y}, scope.names.lookup y = some .free → ∃ c, cenv.cells.lookup y = some c ∧ X.env.cells.lookup y = some c := fun {y} hl => by
    have hy : (y, NameKind.free) ∈ scope.names := PySem.mem_of_lookup hl
    obtain ⟨c', e'⟩ := mem_lookup (cells_acc (names := scope.names) (n := (s.heap.push { cls := .type "frame", data := .dict #[] }).objs.size) (cloFrom_has (cells := X.env.cells) (acc := []) hy))
    rw [← hcl] at e'
    refine ⟨c', e', ?_⟩
    rw [hcl] at e'
    rcases cells_mem (PySem.mem_of_lookup e') with hm | ⟨h1, _, _⟩
    · exact (cm hm).1
    · have := ok.uniq _ h1
      rw [hl] at this; cases this
  have okB : (gcx X B s H scope cenv fp).Ok := by
    refine ⟨I.ok.mod, by show cenv.scope.kind = _; rw [hsc]; exact ok.kind, by show cenv.globals = _; rw [← hcenv]; exact I.ok.glob, by show cenv.builtins = _; rw [← hcenv]; rfl, by show s.heap.objs.size ≤ cenv.locals; rw [hL]; exact Nat.le_refl _,
      fun y z c e1 e2 => ?_, fun y hy => ?_, fun y c z e => ?_, fun _ => hB.hd, hB.fr, .inr ⟨rfl, by show cenv.frame = _; rw [← hcenv]; rfl⟩, fun b hb => ⟨?_, fun y c e z => ?_⟩, I.bs, Nat.le_trans I.ok.bsz I.sz, fun b o e hb => ?_, fun b hb z => ?_, I.stack, I.stkFree⟩
    · have e1 : cenv.cells.lookup y = some c := e1
      have e2 : cenv.cells.lookup z = some c := e2
      rw [hcl] at e1 e2
      refine cells_inj (fun p hp => ?_) (fun y z c a b => I.ok.inj y z c (cm a).1 (cm b).1) (PySem.mem_of_lookup e1) (PySem.mem_of_lookup e2)
      rw [Heap.size_push]
      exact Nat.lt_succ_of_lt (cm (y := p.1) (c := p.2) hp).2
    · show ∃ c, cenv.cells.lookup y = some c
      have key : ∀ k, cenv.kindOf y = some k → (k = .cell ∨ k = .free) → ∃ c, cenv.cells.lookup y = some c := fun k hk hk' => by
        have hk : scope.names.lookup y = some k := by
          unfold Env.kindOf at hk
          rw [hsc] at hk
          exact hk
        rcases hk' with rfl | rfl
        · obtain ⟨c, hm⟩ := cells_has (n := (s.heap.push { cls := .type "frame", data := .dict #[] }).objs.size) (acc := cloFrom X.env.cells scope.names []) (PySem.mem_of_lookup hk)
          obtain ⟨c', e'⟩ := mem_lookup hm
          exact ⟨c', by rw [hcl]; exact e'⟩
        · obtain ⟨c, h1, _⟩ := look hk
          exact ⟨c, h1⟩
      rcases hy with hy | hy
      · exact key _ hy (.inl rfl)
      · exact key _ hy (.inr rfl)
    · have z : (scope.names.lookup y == some NameKind.cell) = true := z
      have z : scope.names.lookup y = some .cell := by simpa using z
      have e : cenv.cells.lookup y = some c := e
      rw [hcl] at e
      rcases cells_mem (PySem.mem_of_lookup e) with hm | ⟨_, h2, _⟩
      · rcases cloFrom_mem hm with hm | ⟨h1, _⟩
        · cases hm
        · have q := ok.uniq _ h1
          rw [z] at q; cases q
      · rw [Heap.size_push] at h2
        exact Nat.le_of_succ_le h2
    · show b ≠ cenv.locals
      rw [hL]; exact Nat.ne_of_lt (hfp b hb).2
    · have e : cenv.cells.lookup y = some c := e
      rcases mem e with ⟨h1, _⟩ | ⟨h1, _⟩
      · exact (hfp b hb).1.2.2.2.2.1 y c h1 z
      · have h2 : s.heap.objs.size + 1 ≤ b := by rw [← z]; exact h1
        exact absurd (Nat.lt_of_lt_of_le (hfp b hb).2 (Nat.le_of_succ_le h2)) (Nat.lt_irrefl _)
    · rcases (hfp b hb).1.2.2.2.1 with z | z
      · exact I.ok.noex b o e z
      · exact absurd (Nat.lt_of_lt_of_le (Heap.lt_size e) (Nat.le_trans I.ok.bsz z)) (Nat.lt_irrefl _)
    · rcases List.mem_cons.mp (I.stkSub b z) with z | z
      · exact (hfp b hb).1.2.1 z
      · exact (hfp b hb).1.2.2.1 z
  refine ⟨okB, rfl, I.bare, Un.kept kp, ⟨fun y => if y = (".0" : Str) then some it else none, ?_, fun i y av e1 e2 e3 => ?_⟩, fun y c e => ?_, ?_, fun y c e => ?_, fun p hp => ?_, I.hok.kept kp, by rw [wipe_length]; exact I.len⟩
  · show Heap.Ns _ cenv.locals _
    rw [hL]
    exact hn'
  · obtain ⟨e2, hne⟩ := wipe_some e2
    have hfr : scope.names.lookup y = some .free := by
      have e3 : Vis cenv.scope y := e3
      rw [hsc] at e3
      have no : ∀ k, scope.names.lookup y = some k → ¬ (k = .local ∨ k = .cell) := fun k e hh => by
        rcases ok.own _ (PySem.mem_of_lookup e) hh with e' | e'
        · obtain ⟨p, hp, hpy⟩ := List.mem_map.mp e'
          have e3 := ok.ix p hp
          have : p.1 = y := hpy
          rw [this] at e3
          exact hne (List.mem_map.mpr ⟨p, hp, nodup_ix hN e3 e1⟩)
        · exact e' (List.mem_of_getElem? e1)
      rcases e3 with e3 | e3 | e3
      · exact absurd (.inl rfl) (no _ e3)
      · exact absurd (.inr rfl) (no _ e3)
      · exact e3
    have hkf : cenv.kindOf y = some .free := by
      unfold Env.kindOf
      rw [hsc]
      exact hfr
    obtain ⟨m, hn, hl⟩ := I.loc
    have hvis : Vis X.env.scope y := (ok.free _ (PySem.mem_of_lookup hfr) rfl).elim (fun k => .inr (.inl k)) (fun k => .inr (.inr k))
    obtain ⟨w, r, q⟩ := hl i y av e1 e2 hvis
    refine ⟨w, r, .inr ⟨.inr hkf, ?_⟩⟩
    obtain ⟨c, h1, h2⟩ := look hfr
    rcases q with ⟨k, _⟩ | ⟨_, c', e', z⟩
    · have k : X.env.scope.names.lookup y = some .local := k
      rcases ok.free _ (PySem.mem_of_lookup hfr) rfl with k' | k' <;> rw [show X.env.scope.names.lookup y = _ from k'] at k <;> cases k
    · rw [h2] at e'; cases e'
      exact ⟨c, h1, z.keeps kp⟩
  · have e : cenv.cells.lookup y = some c := e
    rcases mem e with ⟨h1, _⟩ | ⟨_, z⟩
    · obtain ⟨w, z⟩ := I.cell y c h1
      exact ⟨w, z.keeps kp⟩
    · exact ⟨_, z⟩
  · show H cenv.locals = none
    rw [hL]; exact I.hok.fresh (Nat.le_refl _)
  · have e : cenv.cells.lookup y = some c := e
    rcases mem e with ⟨h1, _⟩ | ⟨h1, _⟩
    · exact I.freeC y c h1
    · exact I.hok.fresh (Nat.le_of_succ_le h1)
  · exact absurd (show p ∈ ([] : List (Addr × Obj)) ++ [] from hp) (by simp)
/-- the table of generators and the heap have grown -/
theorem inv_gens {g' : Array GenState} {t' : Nat} {d' : Drawn} {h' : Heap} (I : Inv X pins σ H s) (k : ∀ b o, s.heap.get? b = some o → h'.get? b = some o) (hg : AllBare g') : Inv X pins σ H { s with heap := h', gens := g', drawn := d', toks := t' } :=
  I.step (ch := []) (fun b hb => absurd hb (by simp)) (fun b o _ _ _ e _ => k b o e) (fun b o _ _ _ e _ => ⟨o.slots, k b o e⟩) (fun _ _ _ _ n => n) (fun b o _ e => ⟨o, k b o e⟩) (fun _ _ e => e) (fun _ _ _ e => e) (fun b ps e => ⟨#[], by rw [e]; simp⟩)
    (fun m hn => hn.keeps k) (I.hok.kept k) hg
theorem over_gen {A : Around} {elt tg iter : Expr} {ifs : List Expr} {scope : Scope} {pos : Pos} {it acc : Value} {env : Env} : A.over (.compLoop (.GeneratorExp elt [⟨tg, iter, ifs, 0⟩] scope pos) 0 it acc env) [] = A.deeper env := by
  first
    | rfl
    | (obtain ⟨hd, d, fr, gs, u⟩ := A; simp [Around.over, Around.deeper, marksOver, frameCount, unitsOf, envsOf, guardsOf, pushEnvs, pushGuards, Code.envs, Code.env?, Code.isFrame, Code.guards, Code.isGuard, Code.weight, Code.frames, Code.isCreation, Code.isCaller, Code.cUnits])
theorem over_gen0 {A : Around} {elt tg iter : Expr} {ifs : List Expr} {scope : Scope} {pos : Pos} {it acc : Value} {env : Env} : A.over (.compStart (.GeneratorExp elt [⟨tg, iter, ifs, 0⟩] scope pos) 0 it acc env) [] = A.deeper env := by
  first
    | rfl
    | (obtain ⟨hd, d, fr, gs, u⟩ := A; simp [Around.over, Around.deeper, marksOver, frameCount, unitsOf, envsOf, guardsOf, pushEnvs, pushGuards, Code.envs, Code.env?, Code.isFrame, Code.guards, Code.isGuard, Code.weight, Code.frames, Code.isCreation, Code.isCaller, Code.cUnits])
end
end GX

namespace GX
open PySem PySem.Spec PyProof.Rows L2 GenW
/-- what a consumer of the items does with one: N is what is wanted where it goes on -/
abbrev Stps (α : Type) := α → V → Hp → (α → Hp → Prop) → Prop
/-- while the generator sleeps: the objects at Ss may be others, all else is kept -/
structure Slp (Ss : List Addr) (s s' : Shared) : Prop where
  os : s'.os = s.os
  bare : AllBare s'.gens
  keep : ∀ b o, b ∉ Ss → s.heap.get? b = some o → s'.heap.get? b = some o
  own : ∀ b ∈ Ss, ∃ o, s'.heap.get? b = some o ∧ ∀ v, o.data ≠ .cell v
/-- the consumer's objects are none of the generator's -/
structure SsOk (Xg : Cx) (gp : Addr × Obj) (fp Ss : List Addr) : Prop where
  all : ∀ b ∈ Ss, Xg.s_0.heap.objs.size ≤ b ∧ b ≠ Xg.env.locals ∧ (∀ x c, Xg.env.cells.lookup x = some c → c ≠ b) ∧ b ∉ fp ∧ b ≠ gp.1
  pn : Xg.pn = []
/-- the generator's state at turn i -/
def GSt (Xg : Cx) (gp : Addr × Obj) (fp : List Addr) (tn : Nat → Heap → Prop) (Ss : List Addr) (σ0 : L2.St) (i : Nat) (H : Hp) (s : Shared) : Prop :=
  ∃ cp : List (Addr × Obj), cp.map (·.1) = Ss ∧ Inv Xg (gp :: cp) σ0 H s ∧ tn i s.heap ∧ ∀ b ∈ fp, H b = none
section
variable {Xg : Cx} {gp : Addr × Obj} {fp : List Addr} {tn : Nat → Heap → Prop} {Ss : List Addr} {σ0 : L2.St} {i : Nat} {H : Hp} {s s' : Shared}
theorem pins_exist : ∀ (Ss : List Addr) (h : Heap), (∀ b ∈ Ss, ∃ o, h.get? b = some o ∧ ∀ v, o.data ≠ .cell v) → ∃ cp : List (Addr × Obj), cp.map (·.1) = Ss ∧ ∀ p ∈ cp, h.get? p.1 = some p.2 ∧ ∀ v, p.2.data ≠ .cell v
  | [], _, _ => ⟨[], rfl, fun _ h => nomatch h⟩
  | b :: r, h, k => by
    obtain ⟨o, e, d⟩ := k b (List.mem_cons_self ..)
    obtain ⟨cp, e1, e2⟩ := pins_exist r h fun x hx => k x (List.mem_cons_of_mem _ hx)
    refine ⟨(b, o) :: cp, by rw [List.map_cons, e1], fun p hp => ?_⟩
    rcases List.mem_cons.mp hp with z | z
    · rw [z]; exact ⟨e, d⟩
    · exact e2 p z
theorem GSt.woken {P : Program} {w : World} {K : PySem.W.Frag} {tg : Expr} {J : It} {it : Addr} (T : Turn P w K tg J fp it tn) (hS : SsOk Xg gp fp Ss) (h : GSt Xg gp fp tn Ss σ0 i H s) (z : Slp Ss s s') : GSt Xg gp fp tn Ss σ0 i H s' := by
  obtain ⟨cp, ecp, I, st, nf⟩ := h
  have free : ∀ b ∈ Ss, H b = none ∧ b ∉ Xg.fs := fun b hb => by
    rw [← ecp] at hb
    obtain ⟨p, hp, rfl⟩ := List.mem_map.mp hb
    obtain ⟨_, h2, _, h4, _⟩ := I.pin p (List.mem_append_right _ (List.mem_cons_of_mem _ hp))
    exact ⟨h2, h4⟩
  obtain ⟨z1, z2, z3, z4⟩ := z
  obtain ⟨hh, g, d, t, o⟩ := s'
  have ho : o = s.os := z1
  subst ho
  have I0 : Inv Xg [gp] σ0 H s := I.pins_of fun p hp => I.pin p (List.mem_append_right _ (by rw [List.mem_singleton.mp hp]; exact List.mem_cons_self ..))
  have nt : ∀ b u, H b = some u → b ∉ Ss := fun b u q hb => by rw [(free b hb).1] at q; cases q
  have J : Inv Xg [gp] σ0 H { s with heap := hh, gens := g, drawn := d, toks := t } := by
    refine I0.step (g' := g) (t' := t) (d' := d) (ch := Ss) (fun b hb => ?_) (fun b ob _ _ hc q _ => z3 b ob hc q) (fun b ob _ _ hc q _ => ⟨ob.slots, z3 b ob hc q⟩) (fun _ _ _ _ n => n) (fun b ob hc q => ⟨ob, z3 b ob hc q⟩)
      (fun _ _ q => q) (fun _ _ _ q => q) (fun b ps q => ⟨#[], by rw [q]; simp⟩) (fun m hm => ?_) (fun b u q => ?_) z2
    · obtain ⟨a1, a2, a3, a4, a5⟩ := hS.all b hb
      refine ⟨.inr a1, a2, a3, fun p hp => ?_⟩
      rw [hS.pn] at hp
      rw [List.mem_singleton.mp hp]
      exact Ne.symm a5
    · obtain ⟨ob, es, ep, ho, r⟩ := hm
      exact ⟨ob, es, ep, z3 _ ob (fun q => (hS.all _ q).2.1 rfl) ho, r⟩
    · refine (I0.hok b u q).stay (fun c v hc y => z3 c v ?_ y) (fun _ y => y) fun _ _ y => y
      rcases hc with y | y
      · rw [y]; exact nt b u q
      · exact nt c _ y
  obtain ⟨cp2, e2, k2⟩ := pins_exist Ss hh z4
  refine ⟨cp2, e2, J.pins_of fun p hp => ?_, T.keep _ _ _ st fun b hb ob e => z3 b ob (fun q => (hS.all b q).2.2.2.1 hb) e, nf⟩
  rcases List.mem_cons.mp hp with hp | hp
  · rw [hp]
    exact J.pin gp (List.mem_append_right _ (List.mem_cons_self ..))
  · have hm : p.1 ∈ Ss := by rw [← e2]; exact List.mem_map_of_mem hp
    exact ⟨(k2 p hp).1, (free _ hm).1, (hS.all _ hm).2.1, (free _ hm).2, (k2 p hp).2⟩
end
section
variable {α : Type} (CRel : α → Heap → Prop) (Stp : Stps α) (Fin : α → Hp → Prop) (Xg : Cx) (gp : Addr × Obj) (fp : List Addr) (tn : Nat → Heap → Prop) (Ss : List Addr) (σ0 : L2.St)
def YG : Protocol := fun _ s₀ v s kap => ∃ (i : Nat) (x : V) (acc : α) (H : Hp) (Nx : α → Hp → Prop), RelV x v ∧ GSt Xg gp fp tn Ss σ0 i H s ∧ CRel acc s₀.heap ∧ (∀ b ∈ Ss, s.heap.get? b = s₀.heap.get? b) ∧ Stp acc x H Nx ∧
  ∀ s' acc', Slp Ss s s' → CRel acc' s'.heap → Nx acc' H → kap (.send .none) s'
def RGp : Shared → Shared → Prop := fun s₀ s => ∃ (acc : α) (H : Hp) (cp : List (Addr × Obj)), cp.map (·.1) = Ss ∧ Inv Xg (gp :: cp) σ0 H s ∧ CRel acc s₀.heap ∧ (∀ b ∈ Ss, s.heap.get? b = s₀.heap.get? b) ∧ Fin acc H
def RG : GenEnd := fun _ s₀ r s => r = .ok .next ∧ RGp CRel Fin Xg gp Ss σ0 s₀ s
/-- the reading of the turns -/
def TurnsR (J : It) (g : TG) (tt : TT) (te : TE) (vs : List Nat) (σ : L2.St) (W : Nat → Nat → α → Hp → Prop) : Prop := ∀ i m a H, W i m a H →
  (J.stop i H ∧ Fin a H) ∨ (J.go i H ∧ ∃ Nx : α → Hp → Prop, (∀ a' H', Nx a' H' → ∃ m', m' < m ∧ W (i + 1) m' a' H') ∧ ∀ x H', J.yld i H x H' → g x (wipe σ vs) H' fun σ2 H2 => wipe σ2 vs = wipe σ vs ∧ tt σ2 H2 fun b H3 =>
    if b = true then te σ2 H3 fun y H4 => Stp a y H4 Nx else Nx a H3)
end
section
variable {α : Type} {CRel : α → Heap → Prop} {Stp : Stps α} {Fin : α → Hp → Prop} {Xg : Cx} {gp : Addr × Obj} {fp : List Addr} {tn : Nat → Heap → Prop} {Ss : List Addr} {σ : L2.St}
theorem gx_loop {B : Around} {tg elt iter : Expr} {ifs : List Expr} {scope : Scope} {gpos : Pos} {it : Addr} {J : It} {g : TG} {tt : TT} {te : TE} {vs : List Nat} {W : Nat → Nat → α → Hp → Prop} (hov : B.deeper Xg.env = Xg.A) (hc : Xg.calm = true) (hco : Xg.env.scope.isCoroutine = false) (hxe : Xg.xe = fun _ _ => False)
    (T : Turn Xg.prog Xg.w Xg.K tg J fp it tn) (hfp : ∀ b ∈ fp, ∀ H', H' b = none → FpOk Xg [] H' b) (hS : SsOk Xg gp fp Ss) (hgf : gp.1 ∉ fp) (hg : PG Xg tg g) (ht : PTs Xg ifs tt) (he : PE Xg elt te) (turn : TurnsR Stp Fin J g tt te vs σ W) :
    ∀ (m n i : Nat) (acc : α) (H : Hp) (s₀ s : Shared), m < n → W i m acc H → CRel acc s₀.heap → (∀ b ∈ Ss, s.heap.get? b = s₀.heap.get? b) → GSt Xg gp fp tn Ss (wipe σ vs) i H s →
      Seg (model Xg.prog Xg.w) B (RG CRel Fin Xg gp Ss (wipe σ vs)) (YG CRel Stp Xg gp fp tn Ss (wipe σ vs)) n s₀ (.compLoop (.GeneratorExp elt [⟨tg, iter, ifs, 0⟩] scope gpos) 0 (.ref it) .none Xg.env)
        ((model Xg.prog Xg.w).den (.compLoop (.GeneratorExp elt [⟨tg, iter, ifs, 0⟩] scope gpos) 0 (.ref it) .none Xg.env)) [] s := by
  have hover : B.over (.compLoop (.GeneratorExp elt [⟨tg, iter, ifs, 0⟩] scope gpos) 0 (.ref it) .none Xg.env) [] = Xg.A := over_gen.trans hov
  intro m
  induction m using Nat.strongRecOn with
  | ind m ih =>
    intro n i acc H s₀ s hmn w crel ksS hst
    obtain ⟨cp, ecp, I, st, nf⟩ := hst
    have fpOk : ∀ {pins : List (Addr × Obj)} {σ' : L2.St} {H' : Hp} {s' : Shared}, pins.map (·.1) = gp.1 :: Ss → Inv Xg pins σ' H' s' → (∀ b ∈ fp, H' b = none) → ∀ b ∈ fp, FpOk Xg pins H' b := fun {pins σ' H' s'} ep I' hn b hb => by
      obtain ⟨a0, a1, a2, a3, a4, _⟩ := hfp b hb H' (hn b hb)
      refine ⟨a0, a1, a2, a3, a4, fun p hp z => ?_⟩
      rw [hS.pn, List.nil_append] at hp
      have hm : p.1 ∈ gp.1 :: Ss := by rw [← ep]; exact List.mem_map_of_mem hp
      rcases List.mem_cons.mp hm with q | q
      · rw [z] at q; exact hgf (q ▸ hb)
      · rw [z] at q; exact (hS.all b q).2.2.2.1 hb
    have epin : (gp :: cp).map (·.1) = gp.1 :: Ss := by rw [List.map_cons, ecp]
    have ownSs : ∀ {extra : List (Addr × Obj)} {σ' : L2.St} {H' : Hp} {s' : Shared}, Inv Xg ((gp :: cp) ++ extra) σ' H' s' → ∀ b ∈ Ss, s'.heap.get? b = s₀.heap.get? b := fun {extra σ' H' s'} I' b hb => by
      rw [← ksS b hb]
      rw [← ecp] at hb
      obtain ⟨p, hp, rfl⟩ := List.mem_map.mp hb
      rw [(I'.pin p (List.mem_append_right _ (List.mem_append_left _ (List.mem_cons_of_mem _ hp)))).1, (I.pin p (List.mem_append_right _ (List.mem_cons_of_mem _ hp))).1]
    have I := I
    show Seg _ B _ _ _ s₀ _ ((compTurn (.GeneratorExp elt [⟨tg, iter, ifs, 0⟩] scope gpos) 0 (.ref it) .none Xg.env).onRaise (leaving Xg.env)) [] s
    rw [compTurn_gen, Sem.onRaise_eq_wrap]
    refine seg_bind_wrap (wpAny_standAt ?_)
    rcases turn i m acc H w with ⟨stop, qf⟩ | ⟨go, Nx, hNx, step⟩
    · refine seg_bind_wrap ?_
      rw [hover]
      refine wpAny_mono (T.done Xg rfl rfl rfl hc i (gp :: cp) s (wipe σ vs) H (fun _ _ => False) I (fpOk epin I nf) st stop) (fun r s1 ⟨hr, I1⟩ => ?_) fun _ _ z => z.elim
      subst hr
      exact seg_end (.ok .next) ⟨rfl, acc, H, cp, ecp, I1, crel, ownSs (extra := []) (by rw [List.append_nil]; exact I1), qf⟩
    · refine seg_bind_wrap ?_
      rw [hover]
      refine wpAny_mono (T.item Xg rfl rfl rfl hc i (gp :: cp) s (wipe σ vs) H (fun _ _ => False) I (fpOk epin I nf) st go) (fun r s1 ⟨u, hr, h1⟩ => ?_) fun _ _ z => z.elim
      subst hr
      refine seg_bind_wrap ?_
      rw [hover]
      refine wpAny_mono h1 (fun _ s2 ⟨x, H2, I2, rx, y2, st2, n2⟩ => ?_) fun _ _ z => z.elim
      have I2' := I2.pinned (fpOk epin I2 n2) (T.obj _ _ st2)
      have hxe' : ∀ {α : Type} {t : Sem α} {Q : α → Shared → Prop} {E : Value → Shared → Prop} {s : Shared}, wpAny (model Xg.prog Xg.w) Xg.A t Q Xg.xe s → wpAny (model Xg.prog Xg.w) Xg.A t Q E s := fun h => wpAny_mono h (fun _ _ z => z) fun _ _ z => by rw [hxe] at z; exact z.elim
      refine seg_bind_wrap ?_
      rw [hover]
      refine wpAny_mono (hxe' (hg.run _ s2 (wipe σ vs) H2 x u _ I2' rx (step x H2 y2))) (fun _ s3 ⟨σ3, H3, I3, hw3, q3⟩ => ?_) fun _ _ z => z
      refine seg_bind_wrap ?_
      rw [hover]
      refine wpAny_mono (hxe' (ht.run _ s3 σ3 H3 _ I3 q3)) (fun b s4 ⟨H4, I4, q4⟩ => ?_) fun _ _ z => z
      -- the turn's end
      have fin : ∀ {s' : Shared} {H' : Hp}, Inv Xg ((gp :: cp) ++ pinsAt fp s2.heap) σ3 H' s' → GSt Xg gp fp tn Ss (wipe σ vs) (i + 1) H' s' := fun {s' H'} I' => by
        have pin' : ∀ b ∈ fp, ∀ o, s2.heap.get? b = some o → s'.heap.get? b = some o ∧ H' b = none := fun b hb o e =>
          let z := I'.pin (b, o) (List.mem_append_right _ (List.mem_append_right _ (mem_pinsAt hb e)))
          ⟨z.1, z.2.1⟩
        have hl : (wipe σ vs).length = σ3.length := by rw [← hw3, wipe_length]
        refine ⟨cp, ecp, (I'.unpinned (pins := gp :: cp)).weak hl (fun j v e => ?_), T.keep _ _ _ st2 fun b hb o e => (pin' b hb o e).1, fun b hb => ?_⟩
        · rw [← hw3] at e
          exact (wipe_some e).1
        · obtain ⟨o, e, _⟩ := T.obj _ _ st2 b hb
          exact (pin' b hb o e).2
      cases b with
      | false =>
        simp only [Bool.false_eq_true, if_false] at q4 ⊢
        obtain ⟨m', hm, w'⟩ := hNx _ _ q4
        exact seg_again rfl (ih m' hm n (i + 1) acc H4 s₀ s4 (by omega) w' crel (ownSs I4) (fin I4))
      | true =>
        simp only [if_true] at q4 ⊢
        have hy : ∀ v, yieldOut Xg.env v = yieldValue v := fun v => by simp only [yieldOut, hco, Bool.false_eq_true, if_false]
        simp only [hy]
        obtain ⟨n', rfl⟩ : ∃ n', n = n' + 1 := ⟨n - 1, by omega⟩
        rw [Sem.bind_eq_wrap', Sem.bind_eq_wrap', Sem.wrap_wrap, Sem.wrap_wrap]
        refine seg_wrap ?_
        rw [hover]
        refine wpAny_mono (hxe' (he.run _ s4 σ3 H4 _ I4 q4)) (fun yv s5 ⟨y, H5, I5, ry, q5⟩ => ?_) fun _ _ z => z
        refine seg_at (seg_yield rfl rfl rfl ⟨i + 1, y, acc, H5, Nx, ry, fin I5, crel, ownSs I5, q5, fun s6 acc' sl cr nx => ?_⟩)
        obtain ⟨m', hm, w'⟩ := hNx _ _ nx
        exact seg_again rfl (ih m' hm n' (i + 1) acc' H5 s6 s6 (by omega) w' cr (fun _ _ => rfl) ((fin I5).woken T hS sl))
end
end GX

namespace GX
open PySem PySem.Spec PyProof.Rows L2 GenW
section
variable {X : Cx} {pins : List (Addr × Obj)} {σ : L2.St} {H : Hp} {s : Shared}
/-- the generator is made: at a, its frame laid, its first turn not begun; s3: the state ahead of its frame -/
structure Made (X : Cx) (pins : List (Addr × Obj)) (σ : L2.St) (tg elt iter : Expr) (ifs : List Expr) (scope : Scope) (gpos : Pos) (own : List (Str × Nat)) (J : It) (code : Value) (H3 : Hp) (s3 : Shared) (it : Addr) (fp : List Addr) (tn : Nat → Heap → Prop) (a : Addr) (g : Nat) (gob : Obj) (s5 : Shared) : Prop where
  inv : Inv X pins σ H3 s3
  turn : Turn X.prog X.w X.K tg J fp it tn
  fps : ∀ b ∈ fp, FpOk X pins H3 b ∧ b < s3.heap.objs.size
  st : tn 0 s5.heap
  ag : s3.heap.objs.size ≤ a
  get : s5.heap.get? a = some gob
  obj : gob.cls = .type "generator" ∧ (∃ nm qn, gob.data = .fields #[.int g 0, nm, qn]) ∧ gob.slots = #[]
  gen : s5.gens[g]? = some (.fresh (.compStart (.GeneratorExp elt [⟨tg, iter, ifs, 0⟩] scope gpos) 0 (.ref it) .none (gEnv X scope s3 code)))
  sub : ∀ B : Around, BOk X B (gEnv X scope s3 code) → Inv (gcx X B s3 H3 scope (gEnv X scope s3 code) fp) [(a, gob)] (wipe σ (own.map (·.2))) H3 s5
theorem Made.isGen {tg elt iter : Expr} {ifs : List Expr} {scope : Scope} {gpos : Pos} {own : List (Str × Nat)} {J : It} {code : Value} {H3 : Hp} {s3 : Shared} {it : Addr} {fp : List Addr} {tn : Nat → Heap → Prop} {a : Addr} {g : Nat} {gob : Obj} {s5 : Shared} (M : Made X pins σ tg elt iter ifs scope gpos own J code H3 s3 it fp tn a g gob s5)
    {h : Heap} (e : h.get? a = some gob) : h.IsGen a g := let ⟨h1, ⟨nm, qn, h2⟩, h3⟩ := M.obj; ⟨gob, nm, qn, e, h1, h2, h3⟩
theorem gx_eval {tg elt iter : Expr} {ifs : List Expr} {scope : Scope} {gpos : Pos} {own : List (Str × Nat)} {ti : TI} {tc : TC} {P0 : Addr} {k : Nat} {Want : It → Value → Hp → Prop} {Q' : Value → Shared → Prop} (I : Inv X pins σ H s) (hN : X.N.Nodup) (room : Room k X.A) (hi : PI X tg iter ti) (hpc : PC X gpos scope tc) (BA : X.base.BuiltinsAt X.mg P0) (ok : GOk X.N X.env.scope scope own)
    (hs : ∀ v, genFold iter X.env v = pure v) (h : ti σ H fun J H1 => tc σ H1 fun code H2 => Want J code H2)
    (fin : ∀ J code H3 s3 it fp tn a g gob s5, Want J code H3 → Made X pins σ tg elt iter ifs scope gpos own J code H3 s3 it fp tn a g gob s5 → Q' (.ref a) s5) :
    wpAny (model X.prog X.w) X.A (eval (.GeneratorExp elt [⟨tg, iter, ifs, 0⟩] scope gpos) X.env) Q' X.xe s := by
  have hfree : ∀ y ∈ scope.names, y.2 = .free → ∃ c, X.env.cells.lookup y.1 = some c := fun y hy e => by
    rcases ok.blk.free y hy e with k | k
    · exact I.ok.has _ (.inl k)
    · exact I.ok.has _ (.inr k)
  have deep : X.A.depth < recursionLimit := by have := room.dp; omega
  rw [eval_GeneratorExp1 _ _ _ _ _ _ _ ok.co, closure_ok hfree]
  refine wpAny_bind (thn (hi.run pins s σ H _ I h) fun xv s1 h1 => ?_)
  refine wpAny_bind (wpAny_standAt ?_)
  refine wpAny_bind (wpAny_of_eq (hs xv) ?_)
  refine wpAny_bind (wpAny_holding (thn h1 fun itv s2 h2 => ?_))
  obtain ⟨it, fp, tn, J, H2, e, I2, T, st2, f2, q2⟩ := h2
  subst e
  refine wpAny_bind (wpAny_enterFrame I2.nolimit deep ?_)
  refine wpAny_bind (wpAny_pure ?_)
  have sz : ∀ b ∈ fp, b < s2.heap.objs.size := fun b hb => by
    obtain ⟨o, e, _⟩ := T.obj _ _ st2 b hb
    exact Heap.lt_size e
  have I2' := I2.pinned f2 (T.obj _ _ st2)
  refine wpAny_bind (thn (hpc.run _ s2 σ H2 _ _ I2' q2) fun code s3 ⟨H3, I3', le3, want⟩ => ?_)
  have pin3 : ∀ b ∈ fp, ∀ o, s2.heap.get? b = some o → s3.heap.get? b = some o ∧ H3 b = none := fun b hb o e =>
    let z := I3'.pin (b, o) (List.mem_append_right _ (List.mem_append_right _ (mem_pinsAt hb e)))
    ⟨z.1, z.2.1⟩
  have I3 : Inv X pins σ H3 s3 := I3'.unpinned
  have st3 : tn 0 s3.heap := T.keep _ _ _ st2 fun b hb o e => (pin3 b hb o e).1
  have f3 : ∀ b ∈ fp, FpOk X pins H3 b ∧ b < s3.heap.objs.size := fun b hb => by
    obtain ⟨o, e, _⟩ := T.obj _ _ st2 b hb
    exact ⟨⟨(pin3 b hb o e).2, (f2 b hb).2⟩, Heap.lt_size (pin3 b hb o e).1⟩
  obtain ⟨bm, ob, b1, b2, _, _, b3, b4, b5, b6⟩ := BA
  have glob : s3.heap.Ns X.env.globals X.mg := by rw [I3.ok.glob]; exact I3.mod.glob.keeps I3.bk
  refine wpAny_bind (wpAny_builtinsFor (m := X.mg) glob b1 b2 (I3.bk bm ob b3) b4 b5 b6 ?_)
  refine wpAny_bind (newGenEnv (s := s3) ok.blk.kind ok.dot fun h' hn' hs' => ?_)
  simp only [newGenerator, newFields]
  refine wpAny_bind (wpAny_newGen (wpAny_bind (wpAny_mkText (wpAny_bind (wpAny_mkText (wpAny_newObj_type ?_ (by size_fits)))))))
  have kp0 : ∀ b o, s3.heap.get? b = some o → h'.get? b = some o := fun b o e => hs'.extBut b o (Nat.ne_of_lt (Heap.lt_size e)) (pushCells_keeps _ _ _ _ (Heap.get?_push_of_some _ e))
  have hsz : s3.heap.objs.size < h'.objs.size := hn'.lt
  refine fin J code H3 s3 it fp tn h'.objs.size s3.gens.size _ _ want ⟨I3, T, f3, ?_, Nat.le_of_lt hsz, Heap.get?_push_size _ rfl, ⟨rfl, ⟨_, _, rfl⟩, rfl⟩, Array.getElem?_push_size .., fun B hB => ?_⟩
  · exact T.keep _ _ _ st3 fun b _ o e => Heap.get?_push_of_some _ (kp0 b o e)
  · have I4 := gx_start (t' := s3.toks + 1) (it := .ref it) I3 ok hN f3 hB hn' hs'
    have I5 := inv_gens (g' := s3.gens.push (.fresh (.compStart (.GeneratorExp elt [⟨tg, iter, ifs, 0⟩] scope gpos) 0 (.ref it) .none (gEnv X scope s3 code)))) (d' := s3.drawn) (t' := s3.toks + 1 + 1 + 1) (h' := h'.push { cls := .type "generator", data := .fields #[.int s3.gens.size 0, .str "<genexpr>" (s3.toks + 1), .str (X.env.qual ++ "<genexpr>") (s3.toks + 1 + 1)] }) I4 (fun b o e => Heap.get?_push_of_some _ e) (I3.bare.push rfl)
    refine I5.pins_of fun p hp => ?_
    rw [List.mem_singleton.mp hp]
    have nw : H3 h'.objs.size = none := I4.hok.fresh (Nat.le_refl _)
    exact ⟨Heap.get?_push_size _ rfl, nw, Nat.ne_of_gt I4.lt, I4.nofs (Nat.le_refl _), fun v z => by cases z⟩
end
end GX

namespace GX
open PySem PySem.Spec PyProof.Rows L2 GenW
section
variable {X : Cx} {pins : List (Addr × Obj)} {σ : L2.St} {tg elt iter : Expr} {ifs : List Expr} {scope : Scope} {gpos : Pos} {own : List (Str × Nat)} {J : It} {code : Value} {H3 : Hp} {s3 : Shared} {it : Addr} {fp : List Addr} {tn : Nat → Heap → Prop} {a : Addr} {g : Nat} {gob : Obj} {s5 : Shared}
/-- back in the def's context -/
theorem Made.back (M : Made X pins σ tg elt iter ifs scope gpos own J code H3 s3 it fp tn a g gob s5) {B : Around} {ps : List (Addr × Obj)} {σ' : L2.St} {H : Hp} {s1 s' : Shared} (I1 : Inv (gcx X B s3 H3 scope (gEnv X scope s3 code) fp) ps σ' H s1) (ho : s'.os = s1.os) (hb : AllBare s'.gens) (k : ∀ b o, s1.heap.get? b = some o → s'.heap.get? b = some o) : Inv X pins σ H s' := by
  refine M.inv.call' (ch := fp) (ho.trans I1.os) (I1.base.trans (Un.kept k)) (I1.hok.kept k) hb fun b hb => ?_
  have f := (M.fps b hb).1
  exact ⟨f.2.2.2.1, f.2.1, f.2.2.2.2.1, f.2.2.2.2.2⟩
abbrev Made.cx (_ : Made X pins σ tg elt iter ifs scope gpos own J code H3 s3 it fp tn a g gob s5) (A : Around) : Cx := gcx X (A.deeper (gEnv X scope s3 code)) s3 H3 scope (gEnv X scope s3 code) fp
theorem Made.bok (_ : Made X pins σ tg elt iter ifs scope gpos own J code H3 s3 it fp tn a g gob s5) {A : Around} (hd : A.handled = none) (hf : A.frames = some X.stack) : BOk X (A.deeper (gEnv X scope s3 code)) (gEnv X scope s3 code) := ⟨hd, Around.frames_deeper hf⟩
theorem Made.ss (M : Made X pins σ tg elt iter ifs scope gpos own J code H3 s3 it fp tn a g gob s5) {A : Around} (hB : BOk X (A.deeper (gEnv X scope s3 code)) (gEnv X scope s3 code)) {Ss : List Addr} (h : ∀ b ∈ Ss, s5.heap.objs.size ≤ b) : SsOk (M.cx A) (a, gob) fp Ss := by
  have I5 := M.sub _ hB
  refine ⟨fun b hb => ?_, rfl⟩
  have lt := h b hb
  refine ⟨Nat.le_trans I5.sz lt, Nat.ne_of_gt (Nat.lt_of_lt_of_le I5.lt lt), fun x c e z => ?_, fun z => ?_, fun z => ?_⟩
  · obtain ⟨v, q⟩ := I5.cell x c e
    have := q.lt
    rw [z] at this
    exact Nat.lt_irrefl _ (Nat.lt_of_lt_of_le this lt)
  · have := (M.fps b z).2
    exact Nat.lt_irrefl _ (Nat.lt_of_lt_of_le this (Nat.le_trans I5.sz lt))
  · have e := M.get
    have z : b = a := z
    rw [← z] at e
    exact Nat.lt_irrefl _ (Nat.lt_of_lt_of_le (Heap.lt_size e) lt)
/-- the first turn -/
theorem Made.wake (M : Made X pins σ tg elt iter ifs scope gpos own J code H3 s3 it fp tn a g gob s5) {α : Type} {CRel : α → Heap → Prop} {Stp : Stps α} {Fin : α → Hp → Prop} {Ss : List Addr} {g' : TG} {tt : TT} {te : TE} {W : Nat → Nat → α → Hp → Prop} {A : Around} {m0 n : Nat} {a0 : α} {s2 : Shared}
    (hco : scope.isCoroutine = false) (hd : A.handled = none) (hf : A.frames = some X.stack) (hg : PG (M.cx A) tg g') (ht : PTs (M.cx A) ifs tt) (he : PE (M.cx A) elt te) (turn : TurnsR Stp Fin J g' tt te (own.map (·.2)) σ W) (w0 : W 0 m0 a0 H3) (hmn : m0 < n)
    (ho : s2.os = s5.os) (hb : AllBare s2.gens) (hk : ∀ b o, s5.heap.get? b = some o → s2.heap.get? b = some o) (hS : ∀ b ∈ Ss, s5.heap.objs.size ≤ b ∧ ∃ o, s2.heap.get? b = some o ∧ ∀ v, o.data ≠ .cell v) (cr : CRel a0 s2.heap) :
    Seg (model X.prog X.w) A (RG CRel Fin (M.cx A) (a, gob) Ss (wipe σ (own.map (·.2)))) (YG CRel Stp (M.cx A) (a, gob) fp tn Ss (wipe σ (own.map (·.2)))) n s2 (.compStart (.GeneratorExp elt [⟨tg, iter, ifs, 0⟩] scope gpos) 0 (.ref it) .none (gEnv X scope s3 code))
      ((model X.prog X.w).den (.compStart (.GeneratorExp elt [⟨tg, iter, ifs, 0⟩] scope gpos) 0 (.ref it) .none (gEnv X scope s3 code))) [] s2 := by
  have hB := M.bok hd hf
  have I5 := M.sub _ hB
  have SO := M.ss hB fun b hb => (hS b hb).1
  have hgf : a ∉ fp := fun z => Nat.lt_irrefl _ (Nat.lt_of_lt_of_le (M.fps a z).2 M.ag)
  have fpOk : ∀ b ∈ fp, ∀ H' : Hp, H' b = none → FpOk (M.cx A) [] H' b := fun b hb H' hn => by
    refine ⟨hn, (I5.ok.exf b hb).1, I5.ok.exfs b hb, .inl hb, fun x c e => (I5.ok.exf b hb).2 x c e, fun p hp => absurd (show p ∈ ([] : List (Addr × Obj)) ++ [] from hp) (by simp)⟩
  have I2 : Inv (M.cx A) [(a, gob)] (wipe σ (own.map (·.2))) H3 s2 := by
    have J := inv_gens (g' := s2.gens) (d' := s2.drawn) (t' := s2.toks) I5 hk hb
    rw [GxR.sh_eta s5 s2 ho] at J
    exact J
  obtain ⟨cp, ecp, hcp⟩ := pins_exist Ss s2.heap fun b hb => (hS b hb).2
  have st2 : GSt (M.cx A) (a, gob) fp tn Ss (wipe σ (own.map (·.2))) 0 H3 s2 := by
    refine ⟨cp, ecp, I2.pins_of fun p hp => ?_, M.turn.keep _ _ _ M.st fun b _ o e => hk b o e, fun b hb => (M.fps b hb).1.1⟩
    rcases List.mem_cons.mp hp with z | z
    · rw [z]
      exact I2.pin (a, gob) (List.mem_append_right _ (List.mem_cons_self ..))
    · have hm : p.1 ∈ Ss := by rw [← ecp]; exact List.mem_map_of_mem z
      have lt := (hS _ hm).1
      exact ⟨(hcp p z).1, I5.hok.fresh lt, (SO.all _ hm).2.1, I5.nofs lt, (hcp p z).2⟩
  have loop := gx_loop (iter := iter) (gpos := gpos) (B := A) (CRel := CRel) (Xg := M.cx A) (scope := scope) (it := it) rfl rfl hco rfl M.turn fpOk SO hgf hg ht he turn m0 n 0 a0 H3 s2 s2 hmn w0 cr (fun _ _ => rfl) st2
  have hover : A.over (.compStart (.GeneratorExp elt [⟨tg, iter, ifs, 0⟩] scope gpos) 0 (.ref it) .none (gEnv X scope s3 code)) [] = A.deeper (gEnv X scope s3 code) := over_gen0
  show Seg _ A _ _ _ s2 _ ((compStart (.GeneratorExp elt [⟨tg, iter, ifs, 0⟩] scope gpos) 0 (.ref it) .none (gEnv X scope s3 code)).onRaise (leaving (gEnv X scope s3 code))) [] s2
  unfold compStart
  rw [Sem.onRaise_eq_wrap]
  show Seg _ A _ _ _ s2 _ ((ask >>= _).wrap _ _ _ _) [] s2
  have st := M.turn.keep _ _ _ M.st fun b _ o e => hk b o e
  refine seg_bind_wrap (wpAny_askSetting ?_)
  split
  · exact seg_again rfl loop
  · first
      | exact seg_bind_wrap (wpAny_rule (seg_bind_wrap (wpAny_standAt (seg_bind_wrap (M.turn.self _ 0 s2 _ _ st (seg_again rfl loop))))))
      | (refine seg_bind_wrap (wpAny_rule ?_); show Seg _ A _ _ _ s2 _ ((standAt iter.pos >>= _).wrap _ _ _ _) [] s2; exact seg_bind_wrap (wpAny_standAt (seg_bind_wrap (M.turn.self _ 0 s2 _ _ st (seg_again rfl loop)))))
/-- next -/
theorem Made.next (M : Made X pins σ tg elt iter ifs scope gpos own J code H3 s3 it fp tn a g gob s5) {α : Type} {CRel : α → Heap → Prop} {Stp : Stps α} {Fin : α → Hp → Prop} {Ss : List Addr} {σ0 : L2.St} {A : Around} {n : Nat} {s : Shared} {gs : GenState} {Qo : Option Value → Shared → Prop} {E : Value → Shared → Prop}
    (hh : A.handled = none) (hdp : A.depth < recursionLimit) (hG : s.heap.get? a = some gob) (hl : s.heap.NoLimit) (hgs : s.gens[g]? = some gs)
    (hgo : gs.Goes (model X.prog X.w) A.in1 (RG CRel Fin (M.cx A.in1) (a, gob) Ss σ0) (YG CRel Stp (M.cx A.in1) (a, gob) fp tn Ss σ0) n (.send .none) (s.setGen g .running))
    (hY : ∀ v s1 gs' i x acc H Nx, gs'.bare = true → RelV x v → GSt (M.cx A.in1) (a, gob) fp tn Ss σ0 i H s1 → CRel acc s.heap → (∀ b ∈ Ss, s1.heap.get? b = s.heap.get? b) → Stp acc x H Nx → g < s1.gens.size →
      (∀ s' acc', Slp Ss s1 s' → CRel acc' s'.heap → Nx acc' H → ∃ n', n = n' + 1 ∧ gs'.Goes (model X.prog X.w) A.in1 (RG CRel Fin (M.cx A.in1) (a, gob) Ss σ0) (YG CRel Stp (M.cx A.in1) (a, gob) fp tn Ss σ0) n' (.send .none) s') → Qo (some v) (s1.setGen g gs'))
    (hP : ∀ s1 h', RGp CRel Fin (M.cx A.in1) (a, gob) Ss σ0 (s.setGen g .running) s1 → (∀ b o, s1.heap.get? b = some o → h'.get? b = some o) → Qo none { s1.setGen g .finished with heap := h' }) :
    wpAny (model X.prog X.w) A (pyNext (.ref a)) Qo E s := by
  have hgl : g < s.gens.size := (Array.getElem?_eq_some_iff.mp hgs).1
  refine wpAny_mono (wpAny_gsz (n := g + 1) hgl (wpAny_pyNext_genexpQ (n := n) (P := fun _ => RGp CRel Fin (M.cx A.in1) (a, gob) Ss σ0) (Y := YG CRel Stp (M.cx A.in1) (a, gob) fp tn Ss σ0) (Q := fun r s' => g + 1 ≤ s'.gens.size → Qo r s') (E := fun e s' => g + 1 ≤ s'.gens.size → E e s') hh hl hdp (M.isGen hG) hgs hgo (fun v s1 gs' hb hv hsz => ?_) (fun s1 hp h' hk _ => hP s1 h' hp hk))) (fun _ _ z => z) (fun _ _ z => z)
  obtain ⟨i, x, acc, H, Nx, rx, st, cr, ks, sp, kap⟩ := hv
  have hsz1 : g < s1.gens.size := by
    have q : (s1.setGen g gs').gens.size = s1.gens.size := setGen_size _ _ _
    omega
  refine hY v s1 gs' i x acc H Nx hb rx st cr ks sp hsz1 fun s' acc' sl cr' nx => ?_
  have z := kap s' acc' sl cr' nx
  cases n with
  | zero => exact z.elim
  | succ n' => exact ⟨n', rfl, z⟩
end
end GX

namespace GX
open PySem PySem.Spec PyProof.Rows L2 GenW
def stAll (Q : VK) : Stps Unit := fun _ y H N => ∃ b, y = .bl b ∧ if b = true then N () H else Q (.bl false) H
def fiAll (Q : VK) : Unit → Hp → Prop := fun _ H => Q (.bl true) H
def stAny (Q : VK) : Stps Unit := fun _ y H N => ∃ b, y = .bl b ∧ if b = true then Q (.bl true) H else N () H
def fiAny (Q : VK) : Unit → Hp → Prop := fun _ H => Q (.bl false) H
def stSum (Q : VK) : Stps Int := fun acc y H N => ∃ i, y = .int i ∧ N (acc + i) H
def fiSum (Q : VK) : Int → Hp → Prop := fun acc H => Q (.int acc) H
def crU : Unit → Heap → Prop := fun _ _ => True
abbrev lstO (xs : Array Value) (c : Nat) : Obj := { cls := .type "list", dict := none, data := .seq xs c, slots := #[] }
def crSum (S : Addr) : Int → Heap → Prop := fun acc h => ∃ t c, h.get? S = some (lstO #[.int acc t] c)
section
variable {X : Cx} {pins : List (Addr × Obj)} {σ : L2.St} {tg elt iter : Expr} {ifs : List Expr} {scope : Scope} {gpos : Pos} {own : List (Str × Nat)} {J : It} {code : Value} {H3 : Hp} {s3 : Shared} {it : Addr} {fp : List Addr} {tn : Nat → Heap → Prop} {a : Addr} {g : Nat} {gob : Obj} {s5 : Shared}
theorem gst_get {Xg : Cx} {gp : Addr × Obj} {fp : List Addr} {tn : Nat → Heap → Prop} {Ss : List Addr} {σ0 : L2.St} {i : Nat} {H : Hp} {s : Shared} (h : GSt Xg gp fp tn Ss σ0 i H s) : s.heap.get? gp.1 = some gp.2 ∧ s.heap.NoLimit ∧ AllBare s.gens ∧ ∀ b ∈ Ss, H b = none := by
  obtain ⟨cp, ecp, I, _, _⟩ := h
  refine ⟨(I.pin gp (List.mem_append_right _ (List.mem_cons_self ..))).1, I.nolimit, I.bare, fun b hb => ?_⟩
  rw [← ecp] at hb
  obtain ⟨p, hp, rfl⟩ := List.mem_map.mp hb
  exact (I.pin p (List.mem_append_right _ (List.mem_cons_of_mem _ hp))).2.1
theorem Made.all_loop (M : Made X pins σ tg elt iter ifs scope gpos own J code H3 s3 it fp tn a g gob s5) {A : Around} {σ0 : L2.St} {R : Result → Shared → Prop} {Q : VK} (hh : A.handled = none) (hdp : A.depth < recursionLimit)
    (hret : ∀ v u H s', Inv X pins σ H s' → RelV v u → Q v H → R (.ok (.ret u)) s') : ∀ (n : Nat) (s : Shared) (gs : GenState), s.heap.get? a = some gob → s.heap.NoLimit → s.gens[g]? = some gs →
    gs.Goes (model X.prog X.w) A.in1.in1 (RG crU (fiAll Q) (M.cx A.in1.in1) (a, gob) [] σ0) (YG crU (stAll Q) (M.cx A.in1.in1) (a, gob) fp tn [] σ0) n (.send .none) (s.setGen g .running) →
    codeAny (model X.prog X.w) A (.builtin "all.loop" ⟨[.ref a], []⟩) R s := by
  intro n
  induction n with
  | zero =>
    intro s gs hG hl hgs hgo
    refine codeAny_builtin F.entry_all_loop ?_
    rw [Around.under_plainId F.plain_all_loop _]
    show wpAny _ A.in1 (pyNext (.ref a) >>= _) _ _ s
    refine wpAny_bind (M.next (A := A.in1) hh hdp hG hl hgs hgo (fun v s1 gs' i x acc H Nx hb rx st cr ks sp hsz kap => ?_) (fun s1 h' hp hk => ?_))
    · obtain ⟨b, rfl, q⟩ := sp
      cases rx
      refine wpAny_bind (wpAny_holding (wpAny_truthy_bool ?_))
      refine wpAny_bind (wpAny_letGo ?_)
      obtain ⟨_, _, bare, _⟩ := gst_get st
      cases b with
      | true =>
        simp only [if_true] at q
        obtain ⟨n', hn, _⟩ := kap s1 () ⟨rfl, bare, fun _ _ _ e => e, fun _ h => nomatch h⟩ trivial q
        omega
      | false =>
        simp only [Bool.false_eq_true, if_false] at q ⊢
        obtain ⟨cp, _, I1, _, _⟩ := st
        exact wpAny_bind (wpAny_rule (wpAny_pure (hret (.bl false) _ H _ (M.back I1 rfl (allBare_setGen bare hb) fun _ _ e => e) rfl q)))
    · obtain ⟨acc, H, cp, _, I1, _, _, q⟩ := hp
      exact wpAny_bind (wpAny_rule (wpAny_pure (hret (.bl true) _ H _ (M.back I1 rfl (allBare_setGen I1.bare rfl) hk) rfl q)))
  | succ n ih =>
    intro s gs hG hl hgs hgo
    refine codeAny_builtin F.entry_all_loop ?_
    rw [Around.under_plainId F.plain_all_loop _]
    show wpAny _ A.in1 (pyNext (.ref a) >>= _) _ _ s
    refine wpAny_bind (M.next (A := A.in1) hh hdp hG hl hgs hgo (fun v s1 gs' i x acc H Nx hb rx st cr ks sp hsz kap => ?_) (fun s1 h' hp hk => ?_))
    · obtain ⟨b, rfl, q⟩ := sp
      cases rx
      refine wpAny_bind (wpAny_holding (wpAny_truthy_bool ?_))
      refine wpAny_bind (wpAny_letGo ?_)
      obtain ⟨eG, nl, bare, _⟩ := gst_get st
      cases b with
      | true =>
        simp only [if_true] at q ⊢
        obtain ⟨n', hn, go'⟩ := kap ((s1.setGen g gs').setGen g .running) () ⟨rfl, allBare_setGen (s := s1.setGen g gs') (allBare_setGen bare hb) rfl, fun _ _ _ e => e, fun _ h => nomatch h⟩ trivial q
        obtain rfl : n' = n := by omega
        exact wpAny_pure ⟨plainId_quiet F.plain_all_loop _, ih _ gs' eG nl (setGen_at hsz) go'⟩
      | false =>
        simp only [Bool.false_eq_true, if_false] at q ⊢
        obtain ⟨cp, _, I1, _, _⟩ := st
        exact wpAny_bind (wpAny_rule (wpAny_pure (hret (.bl false) _ H _ (M.back I1 rfl (allBare_setGen bare hb) fun _ _ e => e) rfl q)))
    · obtain ⟨acc, H, cp, _, I1, _, _, q⟩ := hp
      exact wpAny_bind (wpAny_rule (wpAny_pure (hret (.bl true) _ H _ (M.back I1 rfl (allBare_setGen I1.bare rfl) hk) rfl q)))
theorem Made.any_loop (M : Made X pins σ tg elt iter ifs scope gpos own J code H3 s3 it fp tn a g gob s5) {A : Around} {σ0 : L2.St} {R : Result → Shared → Prop} {Q : VK} (hh : A.handled = none) (hdp : A.depth < recursionLimit)
    (hret : ∀ v u H s', Inv X pins σ H s' → RelV v u → Q v H → R (.ok (.ret u)) s') : ∀ (n : Nat) (s : Shared) (gs : GenState), s.heap.get? a = some gob → s.heap.NoLimit → s.gens[g]? = some gs →
    gs.Goes (model X.prog X.w) A.in1.in1 (RG crU (fiAny Q) (M.cx A.in1.in1) (a, gob) [] σ0) (YG crU (stAny Q) (M.cx A.in1.in1) (a, gob) fp tn [] σ0) n (.send .none) (s.setGen g .running) →
    codeAny (model X.prog X.w) A (.builtin "any.loop" ⟨[.ref a], []⟩) R s := by
  intro n
  induction n with
  | zero =>
    intro s gs hG hl hgs hgo
    refine codeAny_builtin F.entry_any_loop ?_
    rw [Around.under_plainId F.plain_any_loop _]
    show wpAny _ A.in1 (pyNext (.ref a) >>= _) _ _ s
    refine wpAny_bind (M.next (A := A.in1) hh hdp hG hl hgs hgo (fun v s1 gs' i x acc H Nx hb rx st cr ks sp hsz kap => ?_) (fun s1 h' hp hk => ?_))
    · obtain ⟨b, rfl, q⟩ := sp
      cases rx
      refine wpAny_bind (wpAny_holding (wpAny_truthy_bool ?_))
      refine wpAny_bind (wpAny_letGo ?_)
      obtain ⟨_, _, bare, _⟩ := gst_get st
      cases b with
      | false =>
        simp only [Bool.false_eq_true, if_false] at q
        obtain ⟨n', hn, _⟩ := kap s1 () ⟨rfl, bare, fun _ _ _ e => e, fun _ h => nomatch h⟩ trivial q
        omega
      | true =>
        simp only [if_true] at q ⊢
        obtain ⟨cp, _, I1, _, _⟩ := st
        exact wpAny_bind (wpAny_rule (wpAny_pure (hret (.bl true) _ H _ (M.back I1 rfl (allBare_setGen bare hb) fun _ _ e => e) rfl q)))
    · obtain ⟨acc, H, cp, _, I1, _, _, q⟩ := hp
      exact wpAny_bind (wpAny_rule (wpAny_pure (hret (.bl false) _ H _ (M.back I1 rfl (allBare_setGen I1.bare rfl) hk) rfl q)))
  | succ n ih =>
    intro s gs hG hl hgs hgo
    refine codeAny_builtin F.entry_any_loop ?_
    rw [Around.under_plainId F.plain_any_loop _]
    show wpAny _ A.in1 (pyNext (.ref a) >>= _) _ _ s
    refine wpAny_bind (M.next (A := A.in1) hh hdp hG hl hgs hgo (fun v s1 gs' i x acc H Nx hb rx st cr ks sp hsz kap => ?_) (fun s1 h' hp hk => ?_))
    · obtain ⟨b, rfl, q⟩ := sp
      cases rx
      refine wpAny_bind (wpAny_holding (wpAny_truthy_bool ?_))
      refine wpAny_bind (wpAny_letGo ?_)
      obtain ⟨eG, nl, bare, _⟩ := gst_get st
      cases b with
      | false =>
        simp only [Bool.false_eq_true, if_false] at q ⊢
        obtain ⟨n', hn, go'⟩ := kap ((s1.setGen g gs').setGen g .running) () ⟨rfl, allBare_setGen (s := s1.setGen g gs') (allBare_setGen bare hb) rfl, fun _ _ _ e => e, fun _ h => nomatch h⟩ trivial q
        obtain rfl : n' = n := by omega
        exact wpAny_pure ⟨plainId_quiet F.plain_any_loop _, ih _ gs' eG nl (setGen_at hsz) go'⟩
      | true =>
        simp only [if_true] at q ⊢
        obtain ⟨cp, _, I1, _, _⟩ := st
        exact wpAny_bind (wpAny_rule (wpAny_pure (hret (.bl true) _ H _ (M.back I1 rfl (allBare_setGen bare hb) fun _ _ e => e) rfl q)))
    · obtain ⟨acc, H, cp, _, I1, _, _, q⟩ := hp
      exact wpAny_bind (wpAny_rule (wpAny_pure (hret (.bl false) _ H _ (M.back I1 rfl (allBare_setGen I1.bare rfl) hk) rfl q)))
/-- the consumer has written its list -/
theorem slp_upd {S : Addr} {s1 : Shared} {g : Nat} {gs' gs2 : GenState} {f : Obj → Obj} {o : Obj} {tk : Nat} (bare : AllBare s1.gens) (hb : gs'.bare = true) (hb2 : gs2.bare = true) (eS : (s1.heap.update S f).get? S = some o) (nc : ∀ v, o.data ≠ .cell v) :
    Slp [S] s1 (({ s1.setGen g gs' with heap := s1.heap.update S f, toks := tk } : Shared).setGen g gs2) where
  os := rfl
  bare := allBare_setGen (s := { s1.setGen g gs' with heap := s1.heap.update S f, toks := tk }) (allBare_setGen (s := s1) bare hb) hb2
  keep := fun b o hb e => (Heap.get?_update_other _ _ (fun z => hb (by rw [z]; exact List.mem_singleton.mpr rfl))).trans e
  own := fun b hb => by rw [List.mem_singleton.mp hb]; exact ⟨o, eS, nc⟩
theorem Made.sum_loop (M : Made X pins σ tg elt iter ifs scope gpos own J code H3 s3 it fp tn a g gob s5) {A : Around} {σ0 : L2.St} {R : Result → Shared → Prop} {Q : VK} {S : Addr} (hh : A.handled = none) (hdp : A.depth < recursionLimit) (hSa : a ≠ S) (hSc : cStatics ≠ S)
    (hret : ∀ v u H s', Inv X pins σ H s' → RelV v u → Q v H → R (.ok (.ret u)) s') : ∀ (n : Nat) (s : Shared) (gs : GenState) (acc : Int) (t : Tok) (c : Nat) (st : Int), (st = 0 ∨ st = 2) → s.heap.get? a = some gob → s.heap.NoLimit → s.gens[g]? = some gs → s.heap.get? S = some (lstO #[.int acc t] c) →
    gs.Goes (model X.prog X.w) A.in1.in1 (RG (crSum S) (fiSum Q) (M.cx A.in1.in1) (a, gob) [S] σ0) (YG (crSum S) (stSum Q) (M.cx A.in1.in1) (a, gob) fp tn [S] σ0) n (.send .none) (s.setGen g .running) →
    codeAny (model X.prog X.w) A (.builtin "sum.loop" ⟨[.ref a, .ref S, rawInt st, rawInt 0], []⟩) R s := by
  have same : ∀ {acc acc' : Int} {t : Tok} {c : Nat} {h : Heap}, h.get? S = some (lstO #[.int acc t] c) → crSum S acc' h → acc' = acc := fun {acc acc' t c h} e ⟨t', c', e'⟩ => by
    rw [e] at e'
    cases e'
    rfl
  intro n
  induction n with
  | zero =>
    intro s gs acc t c st hst hG hl hgs eS hgo
    refine codeAny_builtin F.entry_sum_loop ?_
    rw [Around.under_plainId F.plain_sum_loop _]
    show wpAny _ A.in1 (seqItems? (.ref S) >>= _) _ _ s
    refine wpAny_bind (wpAny_seqItems eS rfl ?_)
    show wpAny _ A.in1 (tryCatch (pyNext (.ref a)) _ >>= _) _ _ s
    refine wpAny_bind (wpAny_tryCatch (M.next (A := A.in1) hh hdp hG hl hgs hgo (fun v s1 gs' i x acc' H Nx hb rx st' cr ks sp hsz kap => ?_) (fun s1 h' hp hk => ?_)))
    · obtain ⟨j, rfl, q⟩ := sp
      obtain ⟨eG, nl, bare, _⟩ := gst_get st'
      have e1 : s1.heap.get? S = some (lstO #[.int acc t] c) := by rw [ks S (List.mem_singleton.mpr rfl)]; exact eS
      have e2 := Heap.get?_update_self (Obj.mapSeq fun _ => #[Value.int (acc' + j) 0]) e1 rfl
      obtain ⟨n', hn, _⟩ := kap _ (acc' + j) (slp_upd (g := g) (gs' := .running) (gs2 := .running) (tk := 0) bare rfl rfl e2 (fun v z => by cases z)) ⟨0, _, e2⟩ q
      omega
    · obtain ⟨acc', H, cp, _, I1, cr, ks, q⟩ := hp
      rw [same eS cr] at q
      exact wpAny_pure (hret (.int acc) _ H _ (M.back I1 rfl (allBare_setGen I1.bare rfl) hk) ⟨t, rfl⟩ q)
  | succ n ih =>
    intro s gs acc t c st hst hG hl hgs eS hgo
    refine codeAny_builtin F.entry_sum_loop ?_
    rw [Around.under_plainId F.plain_sum_loop _]
    show wpAny _ A.in1 (seqItems? (.ref S) >>= _) _ _ s
    refine wpAny_bind (wpAny_seqItems eS rfl ?_)
    show wpAny _ A.in1 (tryCatch (pyNext (.ref a)) _ >>= _) _ _ s
    refine wpAny_bind (wpAny_tryCatch (M.next (A := A.in1) hh hdp hG hl hgs hgo (fun v s1 gs' i x acc' H Nx hb rx st' cr ks sp hsz kap => ?_) (fun s1 h' hp hk => ?_)))
    · obtain ⟨j, rfl, q⟩ := sp
      obtain ⟨tj, rfl⟩ := rx
      rw [same eS cr] at q
      obtain ⟨eG, nl, bare, _⟩ := gst_get st'
      have e1 : s1.heap.get? S = some (lstO #[.int acc t] c) := by rw [ks S (List.mem_singleton.mpr rfl)]; exact eS
      have on : ∀ (s2 : Shared) (tk : Tok) (c2 : Nat) (st2 : Int), (st2 = 0 ∨ st2 = 2) → s2.os = s1.os → AllBare s2.gens → s2.gens[g]? = some gs' → (∀ b o, b ≠ S → s1.heap.get? b = some o → s2.heap.get? b = some o) → s2.heap.get? S = some (lstO #[.int (acc + j) tk] c2) →
          codeAny (model X.prog X.w) A (.builtin "sum.loop" ⟨[.ref a, .ref S, rawInt st2, rawInt 0], []⟩) R s2 := fun s2 tk c2 st2 h2 ho hbb hg2 kp e2 => by
        obtain ⟨n', hn, go'⟩ := kap (s2.setGen g .running) (acc + j) ⟨ho, allBare_setGen hbb rfl, fun b o hb e => kp b o (fun z => hb (by rw [z]; exact List.mem_singleton.mpr rfl)) e, fun b hb => by rw [List.mem_singleton.mp hb]; exact ⟨_, e2, fun v z => by cases z⟩⟩ ⟨tk, c2, e2⟩ q
        obtain rfl : n' = n := by omega
        refine ih s2 gs' (acc + j) tk c2 st2 h2 (kp a _ hSa eG) ?_ hg2 e2 go'
        obtain ⟨mc, hns, hnn⟩ := nl
        exact ⟨mc, hns.at' fun o e => kp _ o hSc e, hnn⟩
      rcases hst with rfl | rfl
      · show wpAny _ A.in1 (if (_ : Bool) = true then (mkInt (acc + j) >>= _) else _) _ _ _
        split
        · refine wpAny_bind (wpAny_mkInt ?_)
          show wpAny _ A.in1 (updateSeq S (fun _ => #[.int (acc + j) s1.toks]) >>= _) _ _ _
          refine wpAny_bind ?_
          refine wpAny_updateSeq e1 rfl (wpAny_pure ⟨plainId_quiet F.plain_sum_loop _, ?_⟩)
          exact on _ _ _ 0 (.inl rfl) rfl (allBare_setGen bare hb) (setGen_at hsz) (fun b o hb e => (Heap.get?_update_other _ _ (Ne.symm hb)).trans e) (Heap.get?_update_self _ e1 rfl)
        · refine wpAny_bind (wpAny_rule ?_)
          refine wpAny_bind (wpAny_attempt (wpAny_holding (wpAny_add_int ?_)))
          show wpAny _ A.in1 (updateSeq S (fun _ => #[.int (acc + j) s1.toks]) >>= _) _ _ _
          refine wpAny_bind (wpAny_updateSeq e1 rfl ?_)
          have e2 := Heap.get?_update_self (Obj.mapSeq fun _ => #[Value.int (acc + j) s1.toks]) e1 rfl
          refine wpAny_bind (wpAny_letGo ?_)
          refine wpAny_bind (wpAny_updateSeq e2 rfl (wpAny_pure ⟨plainId_quiet F.plain_sum_loop _, ?_⟩))
          exact on _ _ _ 2 (.inr rfl) rfl (allBare_setGen bare hb) (setGen_at hsz) (fun b o hb e => (Heap.get?_update_other _ _ (Ne.symm hb)).trans ((Heap.get?_update_other _ _ (Ne.symm hb)).trans e)) (Heap.get?_update_self _ e2 rfl)
      · show wpAny _ A.in1 ((holding [Value.int j tj] (binaryOp .Add (.int acc t) (.int j tj))).attempt >>= _) _ _ _
        refine wpAny_bind (wpAny_attempt (wpAny_holding (wpAny_add_int ?_)))
        show wpAny _ A.in1 (updateSeq S (fun _ => #[.int (acc + j) s1.toks]) >>= _) _ _ _
        refine wpAny_bind (wpAny_updateSeq e1 rfl ?_)
        have e2 := Heap.get?_update_self (Obj.mapSeq fun _ => #[Value.int (acc + j) s1.toks]) e1 rfl
        refine wpAny_bind (wpAny_letGo ?_)
        refine wpAny_bind (wpAny_updateSeq e2 rfl (wpAny_pure ⟨plainId_quiet F.plain_sum_loop _, ?_⟩))
        exact on _ _ _ 2 (.inr rfl) rfl (allBare_setGen bare hb) (setGen_at hsz) (fun b o hb e => (Heap.get?_update_other _ _ (Ne.symm hb)).trans ((Heap.get?_update_other _ _ (Ne.symm hb)).trans e)) (Heap.get?_update_self _ e2 rfl)
    · obtain ⟨acc', H, cp, _, I1, cr, ks, q⟩ := hp
      rw [same eS cr] at q
      exact wpAny_pure (hret (.int acc) _ H _ (M.back I1 rfl (allBare_setGen I1.bare rfl) hk) ⟨t, rfl⟩ q)
end
end GX

namespace GX
open PySem PySem.Spec PyProof.Rows L2 GenW
def tGx {α : Type} (a0 : α) (Stp : VK → Stps α) (Fin : VK → α → Hp → Prop) (tc : TC) (ti : TI) (g : TG) (tt : TT) (te : Value → TE) (vs : List Nat) : TE := fun σ H Q => ti σ H fun J H1 => tc σ H1 fun code H2 => ∃ W : Nat → Nat → α → Hp → Prop, (∃ m, W 0 m a0 H2) ∧ TurnsR (Stp Q) (Fin Q) J g tt (te code) vs σ W
/-- a rule that holds in the expression's frame, whichever it is -/
abbrev Fam (X : Cx) (k : Nat) (scope : Scope) (Pp : Cx → Value → Prop) : Prop := ∀ (B : Around) (s : Shared) (H : Hp) (code : Value) (fp : List Addr), Room k B → B.guards = X.A.guards → Pp (gcx X B s H scope (gEnv X scope s code) fp) code
def crMax (S : Addr) : Option Int → Heap → Prop
  | none, h => ∃ c, h.get? S = some (lstO #[] c)
  | some m, h => ∃ t c, h.get? S = some (lstO #[.int m t, .int m t] c)
def stMax (Q : VK) : Stps (Option Int) := fun acc y H N => ∃ i, y = .int i ∧ N (some (match acc with | none => i | some j => if j < i then i else j)) H
def stMin (Q : VK) : Stps (Option Int) := fun acc y H N => ∃ i, y = .int i ∧ N (some (match acc with | none => i | some j => if i < j then i else j)) H
def fiMax (Q : VK) : Option Int → Hp → Prop := fun acc H => ∃ m, acc = some m ∧ Q (.int m) H
section
variable {X : Cx} {pins : List (Addr × Obj)} {σ : L2.St} {tg elt iter : Expr} {ifs : List Expr} {scope : Scope} {gpos : Pos} {own : List (Str × Nat)} {J : It} {code : Value} {H3 : Hp} {s3 : Shared} {it : Addr} {fp : List Addr} {tn : Nat → Heap → Prop} {a : Addr} {g : Nat} {gob : Obj} {s5 : Shared}
theorem crMax_none {S : Addr} {acc : Option Int} {h : Heap} {c : Nat} (e : h.get? S = some (lstO #[] c)) (x : crMax S acc h) : acc = none := by
  cases acc with
  | none => rfl
  | some m =>
    obtain ⟨t, c', e'⟩ := x
    rw [e] at e'
    cases e'
theorem crMax_some {S : Addr} {acc : Option Int} {h : Heap} {c : Nat} {m : Int} {t : Tok} (e : h.get? S = some (lstO #[.int m t, .int m t] c)) (x : crMax S acc h) : acc = some m := by
  cases acc with
  | none =>
    obtain ⟨c', e'⟩ := x
    rw [e] at e'
    cases e'
  | some m' =>
    obtain ⟨t', c', e'⟩ := x
    rw [e] at e'
    cases e'
    rfl
theorem Made.max_loop (M : Made X pins σ tg elt iter ifs scope gpos own J code H3 s3 it fp tn a g gob s5) {A : Around} {σ0 : L2.St} {R : Result → Shared → Prop} {Q : VK} {S : Addr} (hh : A.handled = none) (hdp : A.depth < recursionLimit) (hSa : a ≠ S) (hSc : cStatics ≠ S) (hS5 : s3.heap.objs.size ≤ S)
    (hret : ∀ v u H s', Inv X pins σ H s' → RelV v u → Q v H → R (.ok (.ret u)) s') : ∀ (n : Nat) (s : Shared) (gs : GenState) (c : Nat), s.heap.get? a = some gob → s.heap.NoLimit → s.gens[g]? = some gs →
    (s.heap.get? S = some (lstO #[] c) ∨ ∃ m t, s.heap.get? S = some (lstO #[.int m t, .int m t] c)) →
    gs.Goes (model X.prog X.w) A.in1.in1 (RG (crMax S) (fiMax Q) (M.cx A.in1.in1) (a, gob) [S] σ0) (YG (crMax S) (stMax Q) (M.cx A.in1.in1) (a, gob) fp tn [S] σ0) n (.send .none) (s.setGen g .running) →
    codeAny (model X.prog X.w) A (.builtin "max.loop" ⟨[.ref a, .none, .ref S], []⟩) R s := by
  have hname : (toString "max" ++ toString ".loop" : String) = "max.loop" := by decide
  intro n
  induction n with
  | zero =>
    intro s gs c hG hl hgs eS hgo
    refine codeAny_builtin F.entry_max_loop ?_
    rw [Around.under_plainId F.plain_max_loop _]
    show wpAny _ A.in1 (seqItems? (.ref S) >>= _) _ _ s
    have dead : ∀ {o : Obj} {v : Value} {s1 : Shared} {i : Nat} {x : V} {acc : Option Int} {H : Hp} {Nx : Option Int → Hp → Prop} {gs' : GenState}, (∃ xs c2, o = lstO xs c2) → s1.heap.get? S = some o → GSt (M.cx A.in1.in1) (a, gob) fp tn [S] σ0 i H s1 → stMax Q acc x H Nx →
        (∀ s' acc', Slp [S] s1 s' → crMax S acc' s'.heap → Nx acc' H → ∃ n', 0 = n' + 1 ∧ gs'.Goes (model X.prog X.w) A.in1.in1 (RG (crMax S) (fiMax Q) (M.cx A.in1.in1) (a, gob) [S] σ0) (YG (crMax S) (stMax Q) (M.cx A.in1.in1) (a, gob) fp tn [S] σ0) n' (.send .none) s') → False := fun {o v s1 i x acc H Nx gs'} ho e1 st' sp kap => by
      obtain ⟨j, rfl, q⟩ := sp
      obtain ⟨xs, c2, rfl⟩ := ho
      obtain ⟨eG, nl, bare, _⟩ := gst_get st'
      generalize (match acc with | none => j | some k => if k < j then j else k) = m' at q
      have e2 := Heap.get?_update_self (Obj.mapSeq fun _ => #[Value.int m' 0, Value.int m' 0]) e1 rfl
      obtain ⟨n', hn, _⟩ := kap _ (some m') (slp_upd (g := g) (gs' := .running) (gs2 := .running) (tk := 0) bare rfl rfl e2 (fun v z => by cases z)) ⟨0, _, e2⟩ q
      omega
    rcases eS with eS | ⟨m, t, eS⟩
    · refine wpAny_bind (wpAny_seqItems eS rfl ?_)
      show wpAny _ A.in1 (tryCatch (pyNext (.ref a)) _ >>= _) _ _ s
      refine wpAny_bind (wpAny_tryCatch (M.next (A := A.in1) hh hdp hG hl hgs hgo (fun v s1 gs' i x acc' H Nx hb rx st' cr ks sp hsz kap => ?_) (fun s1 h' hp hk => ?_)))
      · exact (dead (v := v) ⟨_, _, rfl⟩ (by rw [ks S (List.mem_singleton.mpr rfl)]; exact eS) st' sp kap).elim
      · obtain ⟨acc', H, cp, _, I1, cr, ks, m, em, q⟩ := hp
        have := crMax_none (h := s.heap) eS cr
        rw [this] at em
        cases em
    · refine wpAny_bind (wpAny_seqItems eS rfl ?_)
      show wpAny _ A.in1 (tryCatch (pyNext (.ref a)) _ >>= _) _ _ s
      refine wpAny_bind (wpAny_tryCatch (M.next (A := A.in1) hh hdp hG hl hgs hgo (fun v s1 gs' i x acc' H Nx hb rx st' cr ks sp hsz kap => ?_) (fun s1 h' hp hk => ?_)))
      · exact (dead (v := v) ⟨_, _, rfl⟩ (by rw [ks S (List.mem_singleton.mpr rfl)]; exact eS) st' sp kap).elim
      · obtain ⟨acc', H, cp, ecp, I1, cr, ks, m', em, q⟩ := hp
        have := crMax_some (h := s.heap) eS cr
        rw [this] at em
        cases em
        have e1 : h'.get? S = some (lstO #[.int m t, .int m t] c) := hk _ _ (by rw [ks S (List.mem_singleton.mpr rfl)]; exact eS)
        have nS : H S = none := by
          have hm : S ∈ cp.map (·.1) := by rw [ecp]; exact List.mem_singleton.mpr rfl
          obtain ⟨p, hp, e⟩ := List.mem_map.mp hm
          rw [← e]
          exact (I1.pin p (List.mem_append_right _ (List.mem_cons_of_mem _ hp))).2.1
        show wpAny _ A.in1 (updateSeq S (fun _ => #[]) >>= _) _ _ _
        refine wpAny_bind ?_
        refine wpAny_updateSeq e1 rfl (wpAny_bind (wpAny_letGo (wpAny_pure ?_)))
        have J1 := M.back (s' := { s1.setGen g .finished with heap := h' }) I1 rfl (allBare_setGen I1.bare rfl) hk
        obtain ⟨f0, f1, f2, f3, f4, f5⟩ := M.inv.fpOk hS5 nS
        exact hret (.int m) _ H _ (J1.turned (t' := s1.toks) (fun b o hb e => (Heap.get?_update_other _ _ (Ne.symm hb)).trans e) f0 f1 f3 f4 f5) ⟨t, rfl⟩ q
  | succ n ih =>
    intro s gs c hG hl hgs eS hgo
    refine codeAny_builtin F.entry_max_loop ?_
    rw [Around.under_plainId F.plain_max_loop _]
    show wpAny _ A.in1 (seqItems? (.ref S) >>= _) _ _ s
    rcases eS with eS | ⟨m, t, eS⟩
    · refine wpAny_bind (wpAny_seqItems eS rfl ?_)
      show wpAny _ A.in1 (tryCatch (pyNext (.ref a)) _ >>= _) _ _ s
      refine wpAny_bind (wpAny_tryCatch (M.next (A := A.in1) hh hdp hG hl hgs hgo (fun v s1 gs' i x acc' H Nx hb rx st' cr ks sp hsz kap => ?_) (fun s1 h' hp hk => ?_)))
      · obtain ⟨j, rfl, q⟩ := sp
        obtain ⟨tj, rfl⟩ := rx
        rw [crMax_none (h := s.heap) eS cr] at q
        obtain ⟨eG, nl, bare, _⟩ := gst_get st'
        have e1 : s1.heap.get? S = some (lstO #[] c) := by rw [ks S (List.mem_singleton.mpr rfl)]; exact eS
        show wpAny _ A.in1 (updateSeq S (fun _ => #[.int j tj, .int j tj]) >>= _) _ _ _
        refine wpAny_bind ?_
        refine wpAny_updateSeq e1 rfl ?_
        have e2 := Heap.get?_update_self (Obj.mapSeq fun _ => #[Value.int j tj, Value.int j tj]) e1 rfl
        rw [hname]
        refine wpAny_pure ⟨plainId_quiet F.plain_max_loop _, ?_⟩
        obtain ⟨n', hn, go'⟩ := kap _ (some j) (slp_upd (g := g) (gs' := gs') (gs2 := .running) (tk := s1.toks) bare hb rfl e2 (fun v z => by cases z)) ⟨tj, _, e2⟩ q
        obtain rfl : n' = n := by omega
        refine ih { s1.setGen g gs' with heap := s1.heap.update S (Obj.mapSeq fun _ => #[Value.int j tj, Value.int j tj]) } gs' _ ((Heap.get?_update_other _ _ (Ne.symm hSa)).trans eG) ?_ (setGen_at hsz) (.inr ⟨j, tj, e2⟩) go'
        obtain ⟨mc, hns, hnn⟩ := nl
        exact ⟨mc, hns.at' fun o e => (Heap.get?_update_other _ _ (Ne.symm hSc)).trans e, hnn⟩
      · obtain ⟨acc', H, cp, _, I1, cr, ks, m, em, q⟩ := hp
        have := crMax_none (h := s.heap) eS cr
        rw [this] at em
        cases em
    · refine wpAny_bind (wpAny_seqItems eS rfl ?_)
      show wpAny _ A.in1 (tryCatch (pyNext (.ref a)) _ >>= _) _ _ s
      refine wpAny_bind (wpAny_tryCatch (M.next (A := A.in1) hh hdp hG hl hgs hgo (fun v s1 gs' i x acc' H Nx hb rx st' cr ks sp hsz kap => ?_) (fun s1 h' hp hk => ?_)))
      · obtain ⟨j, rfl, q⟩ := sp
        obtain ⟨tj, rfl⟩ := rx
        rw [crMax_some (h := s.heap) eS cr] at q
        obtain ⟨eG, nl, bare, _⟩ := gst_get st'
        have e1 : s1.heap.get? S = some (lstO #[.int m t, .int m t] c) := by rw [ks S (List.mem_singleton.mpr rfl)]; exact eS
        show wpAny _ A.in1 (tryCatch (holding [.int j tj, .int j tj] (richCompare .Gt (.int j tj) (.int m t) >>= _)) _ >>= _) _ _ _
        refine wpAny_bind (wpAny_tryCatch (wpAny_holding (wpAny_bind (P.gt_int ?_))))
        refine wpAny_bind (wpAny_holding (wpAny_truthy_bool ?_))
        refine wpAny_bind (wpAny_letGo (wpAny_pure ?_))
        by_cases hb' : m < j
        · rw [decide_eq_true hb']
          simp only [if_true]
          have q : Nx (some j) H := by
            have z : Nx (some (if m < j then j else m)) H := q
            rw [if_pos hb'] at z
            exact z
          refine wpAny_bind ?_
          refine wpAny_updateSeq e1 rfl (wpAny_bind (wpAny_letGo ?_))
          have e2 := Heap.get?_update_self (Obj.mapSeq fun _ => #[Value.int j tj, Value.int j tj]) e1 rfl
          rw [hname]
          refine wpAny_pure ⟨plainId_quiet F.plain_max_loop _, ?_⟩
          obtain ⟨n', hn, go'⟩ := kap _ (some j) (slp_upd (g := g) (gs' := gs') (gs2 := .running) (tk := s1.toks) bare hb rfl e2 (fun v z => by cases z)) ⟨tj, _, e2⟩ q
          obtain rfl : n' = n := by omega
          refine ih { s1.setGen g gs' with heap := s1.heap.update S (Obj.mapSeq fun _ => #[Value.int j tj, Value.int j tj]) } gs' _ ((Heap.get?_update_other _ _ (Ne.symm hSa)).trans eG) ?_ (setGen_at hsz) (.inr ⟨j, tj, e2⟩) go'
          obtain ⟨mc, hns, hnn⟩ := nl
          exact ⟨mc, hns.at' fun o e => (Heap.get?_update_other _ _ (Ne.symm hSc)).trans e, hnn⟩
        · rw [decide_eq_false hb']
          simp only [Bool.false_eq_true, if_false]
          have q : Nx (some m) H := by
            have z : Nx (some (if m < j then j else m)) H := q
            rw [if_neg hb'] at z
            exact z
          refine wpAny_bind (wpAny_letGo ?_)
          rw [hname]
          refine wpAny_pure ⟨plainId_quiet F.plain_max_loop _, ?_⟩
          obtain ⟨n', hn, go'⟩ := kap ((s1.setGen g gs').setGen g .running) (some m) ⟨rfl, allBare_setGen (s := s1.setGen g gs') (allBare_setGen bare hb) rfl, fun _ _ _ e => e, fun b hb => by rw [List.mem_singleton.mp hb]; exact ⟨_, e1, fun v z => by cases z⟩⟩ ⟨t, _, e1⟩ q
          obtain rfl : n' = n := by omega
          exact ih _ gs' _ eG nl (setGen_at hsz) (.inr ⟨m, t, e1⟩) go'
      · obtain ⟨acc', H, cp, ecp, I1, cr, ks, m', em, q⟩ := hp
        have := crMax_some (h := s.heap) eS cr
        rw [this] at em
        cases em
        have e1 : h'.get? S = some (lstO #[.int m t, .int m t] c) := hk _ _ (by rw [ks S (List.mem_singleton.mpr rfl)]; exact eS)
        have nS : H S = none := by
          have hm : S ∈ cp.map (·.1) := by rw [ecp]; exact List.mem_singleton.mpr rfl
          obtain ⟨p, hp, e⟩ := List.mem_map.mp hm
          rw [← e]
          exact (I1.pin p (List.mem_append_right _ (List.mem_cons_of_mem _ hp))).2.1
        show wpAny _ A.in1 (updateSeq S (fun _ => #[]) >>= _) _ _ _
        refine wpAny_bind ?_
        refine wpAny_updateSeq e1 rfl (wpAny_bind (wpAny_letGo (wpAny_pure ?_)))
        have J1 := M.back (s' := { s1.setGen g .finished with heap := h' }) I1 rfl (allBare_setGen I1.bare rfl) hk
        obtain ⟨f0, f1, f2, f3, f4, f5⟩ := M.inv.fpOk hS5 nS
        exact hret (.int m) _ H _ (J1.turned (t' := s1.toks) (fun b o hb e => (Heap.get?_update_other _ _ (Ne.symm hb)).trans e) f0 f1 f3 f4 f5) ⟨t, rfl⟩ q
end
end GX

namespace GX
open PySem PySem.Spec PyProof.Rows L2 GenW
section
variable {X : Cx} {tg elt iter : Expr} {ifs : List Expr} {scope : Scope} {gpos p pos : Pos} {own : List (Str × Nat)} {ti : TI} {tc : TC} {P0 : Addr} {k : Nat} {g' : TG} {tt : TT} {te : Value → TE}
theorem room_in {A : Around} (r : Room (k + 3) A) (e : Env) : Room k (A.in1.in1.deeper e) := ⟨r.hd, by have := r.dp; show A.depth + 1 + 3 * k + 5 < _; omega, by have := r.un; show A.units + 1 + 1 + 3 + 16 * k + 200 < _; omega⟩
theorem pe_allX (hr : Room (k + 3) X.A) (hN : X.N.Nodup) (glob : Gl X "all") (free : X.mg "all" = none) (BA : X.base.BuiltinsAt X.mg P0) (hi : PI X tg iter ti) (hpc : PC X gpos scope tc) (ok : GOk X.N X.env.scope scope own)
    (hg : Fam X k scope fun Y _ => PG Y tg g') (ht : Fam X k scope fun Y _ => PTs Y ifs tt) (he : Fam X k scope fun Y code => PE Y elt (te code)) (hs : ∀ v, genFold iter X.env v = pure v := by intro _; rfl)
    (one : starEach [.GeneratorExp elt [⟨tg, iter, ifs, 0⟩] scope gpos] X.env = [(false, eval (.GeneratorExp elt [⟨tg, iter, ifs, 0⟩] scope gpos) X.env)] := by rfl) :
    PE X (.Call (.Name "all" p) [.GeneratorExp elt [⟨tg, iter, ifs, 0⟩] scope gpos] [] pos) (tGx () stAll fiAll tc ti g' tt te (own.map (·.2))) := by
  constructor
  intro pins s σ H Q I h
  refine wpAny_Call_Name_kw (ld_blt I glob free (show bootBuiltins "all" = some (.builtin "all") by decide +kernel) (callWith_builtin1 ?_ one (by rfl)) (by decide) (by decide))
  rw [one]
  refine Calls.spliced_cons (gx_eval I hN hr hi hpc BA ok hs h fun J code H3 s3 it fp tn a g gob s5 want M => Calls.spliced_nil ?_)
  obtain ⟨W, ⟨m0, w0⟩, turn⟩ := want
  have hd : X.A.depth < recursionLimit := by have := hr.dp; omega
  have hB := M.bok (A := X.A.in1.in1) hr.hd I.ok.frames
  have I5 := M.sub _ hB
  have rm := room_in hr (gEnv X scope s3 code)
  refine call_function_tree F.kind_all F.plain_all F.entry_all (F.args_all1 _) ?_
  unfold Builtin.«all»
  refine wpAny_bind (m := oneArg "all" _) (wpAny_pure ?_)
  refine wpAny_bind (wpAny_pyIter_gen (M.isGen M.get) ?_)
  refine wpAny_pure ⟨plainId_quiet F.plain_all_loop _, M.all_loop (σ0 := wipe σ (own.map (·.2))) hr.hd hd (fun v u H s' I' r q => ⟨v, H, I', r, q⟩) (m0 + 1) s5 _ M.get I5.nolimit M.gen ?_⟩
  refine ⟨rfl, ?_⟩
  exact M.wake (A := X.A.in1.in1) (s2 := s5.setGen g .running) ok.co hr.hd I.ok.frames (hg _ _ _ _ _ rm rfl) (ht _ _ _ _ _ rm rfl) (he _ _ _ _ _ rm rfl) turn w0 (Nat.lt_succ_self _) rfl (allBare_setGen I5.bare rfl) (fun _ _ e => e) (fun _ h => nomatch h) trivial
theorem pe_anyX (hr : Room (k + 3) X.A) (hN : X.N.Nodup) (glob : Gl X "any") (free : X.mg "any" = none) (BA : X.base.BuiltinsAt X.mg P0) (hi : PI X tg iter ti) (hpc : PC X gpos scope tc) (ok : GOk X.N X.env.scope scope own)
    (hg : Fam X k scope fun Y _ => PG Y tg g') (ht : Fam X k scope fun Y _ => PTs Y ifs tt) (he : Fam X k scope fun Y code => PE Y elt (te code)) (hs : ∀ v, genFold iter X.env v = pure v := by intro _; rfl)
    (one : starEach [.GeneratorExp elt [⟨tg, iter, ifs, 0⟩] scope gpos] X.env = [(false, eval (.GeneratorExp elt [⟨tg, iter, ifs, 0⟩] scope gpos) X.env)] := by rfl) :
    PE X (.Call (.Name "any" p) [.GeneratorExp elt [⟨tg, iter, ifs, 0⟩] scope gpos] [] pos) (tGx () stAny fiAny tc ti g' tt te (own.map (·.2))) := by
  constructor
  intro pins s σ H Q I h
  refine wpAny_Call_Name_kw (ld_blt I glob free (show bootBuiltins "any" = some (.builtin "any") by decide +kernel) (callWith_builtin1 ?_ one (by rfl)) (by decide) (by decide))
  rw [one]
  refine Calls.spliced_cons (gx_eval I hN hr hi hpc BA ok hs h fun J code H3 s3 it fp tn a g gob s5 want M => Calls.spliced_nil ?_)
  obtain ⟨W, ⟨m0, w0⟩, turn⟩ := want
  have hd : X.A.depth < recursionLimit := by have := hr.dp; omega
  have hB := M.bok (A := X.A.in1.in1) hr.hd I.ok.frames
  have I5 := M.sub _ hB
  have rm := room_in hr (gEnv X scope s3 code)
  refine call_function_tree F.kind_any F.plain_any F.entry_any (F.args_any1 _) ?_
  unfold Builtin.«any»
  refine wpAny_bind (m := oneArg "any" _) (wpAny_pure ?_)
  refine wpAny_bind (wpAny_pyIter_gen (M.isGen M.get) ?_)
  refine wpAny_pure ⟨plainId_quiet F.plain_any_loop _, M.any_loop (σ0 := wipe σ (own.map (·.2))) hr.hd hd (fun v u H s' I' r q => ⟨v, H, I', r, q⟩) (m0 + 1) s5 _ M.get I5.nolimit M.gen ?_⟩
  refine ⟨rfl, ?_⟩
  exact M.wake (A := X.A.in1.in1) (s2 := s5.setGen g .running) ok.co hr.hd I.ok.frames (hg _ _ _ _ _ rm rfl) (ht _ _ _ _ _ rm rfl) (he _ _ _ _ _ rm rfl) turn w0 (Nat.lt_succ_self _) rfl (allBare_setGen I5.bare rfl) (fun _ _ e => e) (fun _ h => nomatch h) trivial
theorem pe_sumX (hr : Room (k + 3) X.A) (hN : X.N.Nodup) (glob : Gl X "sum") (free : X.mg "sum" = none) (BA : X.base.BuiltinsAt X.mg P0) (hi : PI X tg iter ti) (hpc : PC X gpos scope tc) (ok : GOk X.N X.env.scope scope own)
    (hg : Fam X k scope fun Y _ => PG Y tg g') (ht : Fam X k scope fun Y _ => PTs Y ifs tt) (he : Fam X k scope fun Y code => PE Y elt (te code)) (hs : ∀ v, genFold iter X.env v = pure v := by intro _; rfl)
    (one : starEach [.GeneratorExp elt [⟨tg, iter, ifs, 0⟩] scope gpos] X.env = [(false, eval (.GeneratorExp elt [⟨tg, iter, ifs, 0⟩] scope gpos) X.env)] := by rfl) :
    PE X (.Call (.Name "sum" p) [.GeneratorExp elt [⟨tg, iter, ifs, 0⟩] scope gpos] [] pos) (tGx 0 stSum fiSum tc ti g' tt te (own.map (·.2))) := by
  constructor
  intro pins s σ H Q I h
  refine wpAny_Call_Name_kw (ld_blt I glob free (show bootBuiltins "sum" = some (.builtin "sum") by decide +kernel) (callWith_builtin1 ?_ one (by rfl)) (by decide) (by decide))
  rw [one]
  refine Calls.spliced_cons (gx_eval I hN hr hi hpc BA ok hs h fun J code H3 s3 it fp tn a g gob s5 want M => Calls.spliced_nil ?_)
  obtain ⟨W, ⟨m0, w0⟩, turn⟩ := want
  have hd : X.A.depth < recursionLimit := by have := hr.dp; omega
  have hB := M.bok (A := X.A.in1.in1) hr.hd I.ok.frames
  have I5 := M.sub _ hB
  have rm := room_in hr (gEnv X scope s3 code)
  have hSc : cStatics < s5.heap.objs.size := let ⟨_, hn, _⟩ := I5.nolimit; hn.lt
  refine call_function_tree F.kind_sum F.plain_sum F.entry_sum (F.args_sum1 _) ?_
  unfold Builtin.«sum»
  simp only [List.length_cons, List.length_nil]
  rw [if_neg (by decide)]
  refine wpAny_bind (wpAny_of_eq (show Builtin.Builtins.bindParams "sum" ["start"] 0 { } = pure [none] from rfl) ?_)
  refine wpAny_bind (wpAny_pyIter_gen (M.isGen M.get) ?_)
  refine wpAny_bind (wpAny_mkInt ?_)
  refine wpAny_bind (wpAny_pure ?_)
  simp only [List.forIn_cons, List.forIn_nil]
  refine wpAny_bind (wpAny_bind (wpAny_bind (wpAny_isInstance (T := "int") (b := false) (typeIs_int _ _ _) PySem.sub_int_str ?_)))
  simp only [Bool.false_eq_true, if_false]
  refine wpAny_pure (wpAny_bind (wpAny_bind (wpAny_isInstance (T := "int") (b := false) (typeIs_int _ _ _) PySem.sub_int_bytes ?_)))
  simp only [Bool.false_eq_true, if_false]
  refine wpAny_pure (wpAny_bind (wpAny_bind (wpAny_isInstance (T := "int") (b := false) (typeIs_int _ _ _) PySem.sub_int_bytearray ?_)))
  simp only [Bool.false_eq_true, if_false]
  refine wpAny_pure (wpAny_pure ?_)
  refine wpAny_bind (wpAny_newObj_type ?_)
  have eS : ({ s5 with heap := s5.heap.push { cls := .type "list", data := .seq #[Value.int 0 s5.toks] }, toks := s5.toks + 1 } : Shared).heap.get? s5.heap.objs.size = some (lstO #[.int 0 s5.toks] 0) := Heap.get?_push_size _ rfl
  have kp : ∀ b o, s5.heap.get? b = some o → (s5.heap.push { cls := .type "list", data := .seq #[Value.int 0 s5.toks] }).get? b = some o := fun b o e => Heap.get?_push_of_some _ e
  have al : a < s5.heap.objs.size := Heap.lt_size M.get
  refine wpAny_pure ⟨plainId_quiet F.plain_sum_loop _, M.sum_loop (σ0 := wipe σ (own.map (·.2))) hr.hd hd (Nat.ne_of_lt al) (Nat.ne_of_lt hSc) (fun v u H s' I' r q => ⟨v, H, I', r, q⟩) (m0 + 1) _ _ 0 _ 0 0 (.inl rfl) (kp _ _ M.get) (I5.nolimit.keeps kp) M.gen eS ?_⟩
  refine ⟨rfl, ?_⟩
  refine M.wake (A := X.A.in1.in1) ok.co hr.hd I.ok.frames (hg _ _ _ _ _ rm rfl) (ht _ _ _ _ _ rm rfl) (he _ _ _ _ _ rm rfl) turn w0 (Nat.lt_succ_self _) rfl (allBare_setGen (s := { s5 with heap := _, toks := _ }) I5.bare rfl) kp (fun b hb => ?_) ⟨_, _, eS⟩
  rw [List.mem_singleton.mp hb]
  exact ⟨Nat.le_refl _, _, eS, fun v z => by cases z⟩
theorem pe_maxX (hr : Room (k + 3) X.A) (hN : X.N.Nodup) (glob : Gl X "max") (free : X.mg "max" = none) (BA : X.base.BuiltinsAt X.mg P0) (hi : PI X tg iter ti) (hpc : PC X gpos scope tc) (ok : GOk X.N X.env.scope scope own)
    (hg : Fam X k scope fun Y _ => PG Y tg g') (ht : Fam X k scope fun Y _ => PTs Y ifs tt) (he : Fam X k scope fun Y code => PE Y elt (te code)) (hs : ∀ v, genFold iter X.env v = pure v := by intro _; rfl)
    (one : starEach [.GeneratorExp elt [⟨tg, iter, ifs, 0⟩] scope gpos] X.env = [(false, eval (.GeneratorExp elt [⟨tg, iter, ifs, 0⟩] scope gpos) X.env)] := by rfl) :
    PE X (.Call (.Name "max" p) [.GeneratorExp elt [⟨tg, iter, ifs, 0⟩] scope gpos] [] pos) (tGx none stMax fiMax tc ti g' tt te (own.map (·.2))) := by
  constructor
  intro pins s σ H Q I h
  have hname : (toString "max" ++ toString ".loop" : String) = "max.loop" := by decide
  refine wpAny_Call_Name_kw (ld_blt I glob free (show bootBuiltins "max" = some (.builtin "max") by decide +kernel) (callWith_builtin1 ?_ one (by rfl)) (by decide) (by decide))
  rw [one]
  refine Calls.spliced_cons (gx_eval I hN hr hi hpc BA ok hs h fun J code H3 s3 it fp tn a g gob s5 want M => Calls.spliced_nil ?_)
  obtain ⟨W, ⟨m0, w0⟩, turn⟩ := want
  have hd : X.A.depth < recursionLimit := by have := hr.dp; omega
  have hB := M.bok (A := X.A.in1.in1) hr.hd I.ok.frames
  have I5 := M.sub _ hB
  have rm := room_in hr (gEnv X scope s3 code)
  have hSc : cStatics < s5.heap.objs.size := let ⟨_, hn, _⟩ := I5.nolimit; hn.lt
  refine call_function_tree F.kind_max F.plain_max F.entry_max (F.args_max1 _) ?_
  show wpAny _ X.A.in1 (Builtin.Builtins.bindParams "max" ["key", "default"] 0 ⟨[], []⟩ >>= _) _ _ _
  refine wpAny_bind (wpAny_of_eq (show Builtin.Builtins.bindParams "max" ["key", "default"] 0 ⟨[], []⟩ = pure [none, none] from rfl) ?_)
  refine wpAny_bind (wpAny_pure ?_)
  refine wpAny_bind (wpAny_pyIter_gen (M.isGen M.get) ?_)
  refine wpAny_bind (wpAny_newObj_type ?_)
  have eS : ({ s5 with heap := s5.heap.push { cls := .type "list", data := .seq #[] } } : Shared).heap.get? s5.heap.objs.size = some (lstO #[] 0) := Heap.get?_push_size _ rfl
  have kp : ∀ b o, s5.heap.get? b = some o → (s5.heap.push { cls := .type "list", data := .seq #[] }).get? b = some o := fun b o e => Heap.get?_push_of_some _ e
  have al : a < s5.heap.objs.size := Heap.lt_size M.get
  rw [hname]
  refine wpAny_pure ⟨plainId_quiet F.plain_max_loop _, M.max_loop (σ0 := wipe σ (own.map (·.2))) hr.hd hd (Nat.ne_of_lt al) (Nat.ne_of_lt hSc) I5.sz (fun v u H s' I' r q => ⟨v, H, I', r, q⟩) (m0 + 1) _ _ 0 (kp _ _ M.get) (I5.nolimit.keeps kp) M.gen (.inl eS) ?_⟩
  refine ⟨rfl, ?_⟩
  refine M.wake (A := X.A.in1.in1) ok.co hr.hd I.ok.frames (hg _ _ _ _ _ rm rfl) (ht _ _ _ _ _ rm rfl) (he _ _ _ _ _ rm rfl) turn w0 (Nat.lt_succ_self _) rfl (allBare_setGen (s := { s5 with heap := _ }) I5.bare rfl) kp (fun b hb => ?_) ⟨_, eS⟩
  rw [List.mem_singleton.mp hb]
  exact ⟨Nat.le_refl _, _, eS, fun v z => by cases z⟩
end
end GX

namespace GX
open PySem PySem.Spec PyProof.Rows L2 GenW
section
variable {J : It} {n : Nat} {G : Hp → Prop} {Y : Nat → Hp → V → Hp → Prop} {g : TG} {tt : TT} {te : TE} {vs : List Nat} {σ : L2.St} {Q : VK} {H2 : Hp}
theorem turns_all (w : Walk J n G Y) (fb : Nat → Bool) (Iv : Hp → Prop) (h0 : Iv H2) (hG : ∀ H, Iv H → G H)
    (turn : ∀ i x H H' (Kt : V → Hp → Prop) (Kn : Hp → Prop), i < n → Iv H → Y i H x H' → (∀ H4, Iv H4 → Kt (.bl (fb i)) H4) → (fb i = true → ∀ H4, Iv H4 → Kn H4) → g x (wipe σ vs) H' fun σ2 H2 => wipe σ2 vs = wipe σ vs ∧ tt σ2 H2 fun b H3 => if b = true then te σ2 H3 Kt else Kn H3)
    (fin : ∀ H b, Iv H → (b = true ↔ ∀ i, i < n → fb i = true) → Q (.bl b) H) : ∃ W : Nat → Nat → Unit → Hp → Prop, (∃ m, W 0 m () H2) ∧ TurnsR (stAll Q) (fiAll Q) J g tt te vs σ W := by
  refine ⟨fun i m _ H => m = n - i ∧ i ≤ n ∧ Iv H ∧ ∀ j, j < i → fb j = true, ⟨n, by simp, Nat.zero_le _, h0, fun j h => absurd h (Nat.not_lt_zero _)⟩, ?_⟩
  rintro i m _ H ⟨rfl, hi, iv, al⟩
  have q := hG H iv
  by_cases hlt : i < n
  · refine .inr ⟨w.goes i H hlt q, fun _ H' => Iv H' ∧ fb i = true, fun _ H' ⟨z1, z2⟩ => ⟨n - (i + 1), by omega, rfl, hlt, z1, fun j hj => ?_⟩, fun x H' y => turn i x H H' _ _ hlt iv (w.yields i H x H' hlt q y) (fun H4 iv4 => ⟨fb i, rfl, ?_⟩) (fun e H4 iv4 => ⟨iv4, e⟩)⟩
    · by_cases e : j = i
      · rw [e]; exact z2
      · exact al j (by omega)
    · cases e : fb i with
      | true => rw [if_pos rfl]; exact ⟨iv4, rfl⟩
      | false =>
        rw [if_neg Bool.false_ne_true]
        refine fin H4 false iv4 ⟨(fun z => nomatch z), fun z => ?_⟩
        rw [z i hlt] at e
        cases e
  · have e : i = n := by omega
    subst e
    exact .inl ⟨w.stops H q, fin H true iv ⟨fun _ j hj => al j hj, fun _ => rfl⟩⟩
theorem turns_any (w : Walk J n G Y) (fb : Nat → Bool) (Iv : Hp → Prop) (h0 : Iv H2) (hG : ∀ H, Iv H → G H)
    (turn : ∀ i x H H' (Kt : V → Hp → Prop) (Kn : Hp → Prop), i < n → Iv H → Y i H x H' → (∀ H4, Iv H4 → Kt (.bl (fb i)) H4) → (fb i = false → ∀ H4, Iv H4 → Kn H4) → g x (wipe σ vs) H' fun σ2 H2 => wipe σ2 vs = wipe σ vs ∧ tt σ2 H2 fun b H3 => if b = true then te σ2 H3 Kt else Kn H3)
    (fin : ∀ H b, Iv H → (b = true ↔ ∃ i, i < n ∧ fb i = true) → Q (.bl b) H) : ∃ W : Nat → Nat → Unit → Hp → Prop, (∃ m, W 0 m () H2) ∧ TurnsR (stAny Q) (fiAny Q) J g tt te vs σ W := by
  refine ⟨fun i m _ H => m = n - i ∧ i ≤ n ∧ Iv H ∧ ∀ j, j < i → fb j = false, ⟨n, by simp, Nat.zero_le _, h0, fun j h => absurd h (Nat.not_lt_zero _)⟩, ?_⟩
  rintro i m _ H ⟨rfl, hi, iv, al⟩
  have q := hG H iv
  by_cases hlt : i < n
  · refine .inr ⟨w.goes i H hlt q, fun _ H' => Iv H' ∧ fb i = false, fun _ H' ⟨z1, z2⟩ => ⟨n - (i + 1), by omega, rfl, hlt, z1, fun j hj => ?_⟩, fun x H' y => turn i x H H' _ _ hlt iv (w.yields i H x H' hlt q y) (fun H4 iv4 => ⟨fb i, rfl, ?_⟩) (fun e H4 iv4 => ⟨iv4, e⟩)⟩
    · by_cases e : j = i
      · rw [e]; exact z2
      · exact al j (by omega)
    · cases e : fb i with
      | true => rw [if_pos rfl]; exact fin H4 true iv4 ⟨fun _ => ⟨i, hlt, e⟩, fun _ => rfl⟩
      | false => rw [if_neg Bool.false_ne_true]; exact ⟨iv4, rfl⟩
  · have e : i = n := by omega
    subst e
    refine .inl ⟨w.stops H q, fin H false iv ⟨(fun z => nomatch z), fun ⟨j, hj, z⟩ => ?_⟩⟩
    rw [al j hj] at z
    cases z
theorem turns_sum (w : Walk J n G Y) (v : Nat → Int) (Iv : Hp → Prop) (h0 : Iv H2) (hG : ∀ H, Iv H → G H)
    (turn : ∀ i x H H' (Kt : V → Hp → Prop) (Kn : Hp → Prop), i < n → Iv H → Y i H x H' → (∀ H4, Iv H4 → Kt (.int (v i)) H4) → (v i = 0 → ∀ H4, Iv H4 → Kn H4) → g x (wipe σ vs) H' fun σ2 H2 => wipe σ2 vs = wipe σ vs ∧ tt σ2 H2 fun b H3 => if b = true then te σ2 H3 Kt else Kn H3)
    (fin : ∀ H, Iv H → Q (.int (preSum v n)) H) : ∃ W : Nat → Nat → Int → Hp → Prop, (∃ m, W 0 m 0 H2) ∧ TurnsR (stSum Q) (fiSum Q) J g tt te vs σ W := by
  refine ⟨fun i m acc H => m = n - i ∧ i ≤ n ∧ Iv H ∧ acc = preSum v i, ⟨n, by simp, Nat.zero_le _, h0, rfl⟩, ?_⟩
  rintro i m acc H ⟨rfl, hi, iv, rfl⟩
  have q := hG H iv
  by_cases hlt : i < n
  · refine .inr ⟨w.goes i H hlt q, fun acc' H' => Iv H' ∧ acc' = preSum v (i + 1), fun acc' H' ⟨z1, z2⟩ => ⟨n - (i + 1), by omega, rfl, hlt, z1, z2⟩, fun x H' y => turn i x H H' _ _ hlt iv (w.yields i H x H' hlt q y) (fun H4 iv4 => ⟨v i, rfl, iv4, rfl⟩) (fun e H4 iv4 => ⟨iv4, ?_⟩)⟩
    show preSum v i = preSum v i + v i
    omega
  · have e : i = n := by omega
    subst e
    exact .inl ⟨w.stops H q, fin H iv⟩
theorem turns_max (w : Walk J n G Y) (v : Nat → Int) (hn : 0 < n) (Iv : Hp → Prop) (h0 : Iv H2) (hG : ∀ H, Iv H → G H)
    (turn : ∀ i x H H' (Kt : V → Hp → Prop) (Kn : Hp → Prop), i < n → Iv H → Y i H x H' → (∀ H4, Iv H4 → Kt (.int (v i)) H4) → g x (wipe σ vs) H' fun σ2 H2 => wipe σ2 vs = wipe σ vs ∧ tt σ2 H2 fun b H3 => if b = true then te σ2 H3 Kt else Kn H3)
    (fin : ∀ H m, Iv H → (∃ i, i < n ∧ v i = m) → (∀ i, i < n → v i ≤ m) → Q (.int m) H) : ∃ W : Nat → Nat → Option Int → Hp → Prop, (∃ m, W 0 m none H2) ∧ TurnsR (stMax Q) (fiMax Q) J g tt te vs σ W := by
  refine ⟨fun i m acc H => m = n - i ∧ i ≤ n ∧ Iv H ∧ ((i = 0 ∧ acc = none) ∨ ∃ k, acc = some k ∧ (∃ j, j < i ∧ v j = k) ∧ ∀ j, j < i → v j ≤ k), ⟨n, by simp, Nat.zero_le _, h0, .inl ⟨rfl, rfl⟩⟩, ?_⟩
  rintro i m acc H ⟨rfl, hi, iv, hacc⟩
  have q := hG H iv
  by_cases hlt : i < n
  · refine .inr ⟨w.goes i H hlt q, fun acc' H' => Iv H' ∧ ∃ k, acc' = some k ∧ (∃ j, j < i + 1 ∧ v j = k) ∧ ∀ j, j < i + 1 → v j ≤ k, fun acc' H' ⟨z1, z2⟩ => ⟨n - (i + 1), by omega, rfl, hlt, z1, .inr z2⟩, fun x H' y => turn i x H H' _ _ hlt iv (w.yields i H x H' hlt q y) (fun H4 iv4 => ⟨v i, rfl, iv4, ?_⟩)⟩
    rcases hacc with ⟨rfl, rfl⟩ | ⟨k, rfl, ⟨j, hj, ej⟩, al⟩
    · exact ⟨v 0, rfl, ⟨0, by omega, rfl⟩, fun j hj => by
        have e : j = 0 := by omega
        rw [e]
        exact Int.le_refl _⟩
    · refine ⟨_, rfl, ?_, fun j' hj' => ?_⟩
      · by_cases c : k < v i
        · exact ⟨i, by omega, (if_pos c).symm⟩
        · exact ⟨j, by omega, by rw [ej]; exact (if_neg c).symm⟩
      · show v j' ≤ if k < v i then v i else k
        by_cases e : j' = i
        · rw [e]; split <;> omega
        · have := al j' (by omega)
          split <;> omega
  · have e : i = n := by omega
    subst e
    rcases hacc with ⟨e, _⟩ | ⟨k, rfl, hk, al⟩
    · omega
    · exact .inl ⟨w.stops H q, k, rfl, fin H k iv hk al⟩
end
end GX

/-! ### places: signs at places, where marks are unlike, whether rows are met -/
def IntsA (H : Hp) (a : Addr) (ns : List Int) : Prop := H a = some (.lst (ns.map V.int))
theorem IntsA.at {ns : List Int} {i : Nat} {v : Int} (h : ns[i]? = some v) : atI (ns.map V.int) (i : Int) = some (.int v) := atI_nat (by rw [List.getElem?_map, h]; rfl)
theorem ints_flat (ns : List Int) : (ns.map V.int).all flatV = true := by
  rw [List.all_eq_true]
  intro v hv
  obtain ⟨x, _, rfl⟩ := List.mem_map.mp hv
  rfl
theorem inV_ints {n : Int} {ns : List Int} : inV (.int n) (ns.map V.int) = decide (n ∈ ns) := by
  rw [Bool.eq_iff_iff, decide_eq_true_iff]
  unfold inV
  rw [List.any_eq_true]
  constructor
  · rintro ⟨v, hv, e⟩
    obtain ⟨y, hy, rfl⟩ := List.mem_map.mp hv
    have : y = n := eq_of_beq e
    rw [← this]; exact hy
  · intro h
    exact ⟨_, List.mem_map.mpr ⟨n, h, rfl⟩, beq_self_eq_true _⟩
/-- a list of lists of numbers -/
def LLA (H : Hp) (a : Addr) (rss : List (List Int)) : Prop := ∃ us, H a = some (.lst us) ∧ us.length = rss.length ∧ ∀ (i : Nat) rs, rss[i]? = some rs → ∃ l, us[i]? = some (.ref l) ∧ IntsA H l rs
theorem LLA.same {H H' : Hp} {a : Addr} {rss : List (List Int)} (h : LLA H a rss) (s : Same H H') : LLA H' a rss := let ⟨us, e, l, k⟩ := h; ⟨us, s _ _ e, l, fun i rs er => let ⟨p, e1, e2⟩ := k i rs er; ⟨p, e1, s _ _ e2⟩⟩
theorem LLA.noTab {H H' : Hp} {a : Addr} {rss : List (List Int)} (h : LLA H a rss) (s : GX.NoTab H H') : LLA H' a rss := let ⟨us, e, l, k⟩ := h; ⟨us, s.lst e, l, fun i rs er => let ⟨p, e1, e2⟩ := k i rs er; ⟨p, e1, s.lst e2⟩⟩
/-- a sign, or none -/
def sgV (l : List Nat) (p : Nat) : V := match l[p]? with | some c => .str ⟨#[c]⟩ | none => .non
theorem sgV_eq {l r : List Nat} {p : Nat} : sgV l p = sgV r p ↔ l[p]? = r[p]? := by
  unfold sgV
  cases l[p]? with
  | none =>
    cases r[p]? with
    | none => simp
    | some d => simp
  | some c =>
    cases r[p]? with
    | none => simp
    | some d => simp
def spSignAt : Sp := fun vs H Q _ => ∃ (l : List Nat) (p : Nat), vs = [.str (SX.S l), .int (p : Int)] ∧ l.length ≤ 900 ∧ Q (sgV l p) H
abbrev sSignAt : Stmt := topS 1
theorem scSignAt : FnScope ["mark", "place"] ["mark", "place"] (defScope sSignAt) := ⟨rfl, rfl, rfl, by decide +kernel, rfl, by decide +kernel, by decide +kernel⟩
/-- the places at which these are unlike -/
def unB (l r : List Nat) (p : Nat) : Bool := !decide (l[p]? = r[p]?)
def unl (l r : List Nat) : List Int := ((List.range (max l.length r.length)).filter (unB l r)).map fun p : Nat => (p : Int)
theorem unl_mem {l r : List Nat} {n : Int} : n ∈ unl l r ↔ ∃ p : Nat, n = (p : Int) ∧ l[p]? ≠ r[p]? := by
  unfold unl
  rw [List.mem_map]
  constructor
  · rintro ⟨p, hp, rfl⟩
    have := (List.mem_filter.mp hp).2
    unfold unB at this
    exact ⟨p, rfl, by simpa using this⟩
  · rintro ⟨p, rfl, h⟩
    refine ⟨p, List.mem_filter.mpr ⟨List.mem_range.mpr ?_, by unfold unB; simpa using h⟩, rfl⟩
    by_cases h1 : p < l.length
    · omega
    · by_cases h2 : p < r.length
      · omega
      · rw [List.getElem?_eq_none (by omega), List.getElem?_eq_none (by omega)] at h
        exact absurd rfl h
def spUnlike : Sp := fun vs H Q _ => ∃ (l r : List Nat), vs = [.str (SX.S l), .str (SX.S r)] ∧ l.length ≤ 900 ∧ r.length ≤ 900 ∧ ∀ p H', H p = none → Same H H' → IntsA H' p (unl l r) → Q (.ref p) H'
abbrev sUnlike : Stmt := topS 2
theorem scUnlike : FnScope ["mark", "other", "longest", "place"] ["mark", "other"] (defScope sUnlike) := ⟨rfl, rfl, rfl, by decide +kernel, rfl, by decide +kernel, by decide +kernel⟩
/-- whether each row has one of the places -/
def meets (ps : List Int) (rss : List (List Int)) : Bool := rss.all fun r => ps.any fun p => decide (p ∈ r)
def spMeets (K : PySem.W.Frag) (Ms Xs : List Addr) (Pt : Addr) : Sp := fun vs H Q _ => ∃ (a b : Addr) (ps : List Int) (rss : List (List Int)), vs = [.ref a, .ref b] ∧ IntsA H a ps ∧ LLA H b rss ∧ GX.TQ Ms Xs H ∧ Pt ∈ Ms ∧ ∀ H2, GX.NoTab H H2 → GX.TQ Ms Xs H2 → Q (.bl (meets ps rss)) H2
abbrev sMeets : Stmt := topS 3
theorem scMeets : FnScope ["places", "rows", "row", "place"] ["places", "rows"] (defScope sMeets) := ⟨rfl, rfl, rfl, by decide +kernel, rfl, by decide +kernel, by decide +kernel⟩
section
variable {K : PySem.W.Frag} {mg : Str → Option Value} {P : Program} {w : World} {base : Heap}
theorem ok_SignAt {f : Addr} {fd : FuncData} (F : Fun K "sign_at" "sign_at" sSignAt f fd) (m_len : mg "len" = none) : FnOk P w K mg base CX0 1 f fd ["mark", "place"] spSignAt := by
  refine F.ok scSignAt (fun vs H Q E h => ?_) (fun cdv A outer s H vs Q E hr h => ?_)
  · obtain ⟨l, p, rfl, _⟩ := h
    rfl
  · obtain ⟨l, p, rfl, hl, q⟩ := h
    refine ⟨_, pss_one (ps_ret (pe_ifExp (pt_cmpR op_lt (pv 1) (pe_callB call_len_str (by rfl) m_len PySem.boot_len (pa_cons (pv 0) pa_nil)) (nomark _)) (pe_ix ix_str (pv 0) (pv 1) (fun _ _ => rfl)) pe_non)), ?_⟩
    have hz : (SX.S l).length ≤ sizeLine := by rw [SX.S_len]; exact Nat.le_trans hl (by decide)
    refine ⟨_, rfl, _, rfl, _, rfl, hz, _, _, rfl, rfl, _, rfl, ite2 (fun c1 => ?_) (fun c1 => ?_)⟩
    · have c1 := of_decide_eq_true c1
      rw [SX.S_len] at c1
      have lt : p < l.length := by omega
      have e : l[p]? = some l[p] := List.getElem?_eq_getElem lt
      refine ⟨_, rfl, _, rfl, _, (p : Int), l[p], rfl, rfl, hz, atI_nat (by rw [S_cps]; exact e), ?_⟩
      have : sgV l p = .str ⟨#[l[p]]⟩ := by unfold sgV; rw [e]
      rw [this] at q
      exact q
    · have c1 : ¬ (p : Int) < ((SX.S l).length : Int) := fun z => c1 (decide_eq_true z)
      rw [SX.S_len] at c1
      have e : l[p]? = none := List.getElem?_eq_none (by omega)
      have : sgV l p = .non := by unfold sgV; rw [e]
      rw [this] at q
      exact q
theorem ok_Unlike {f : Addr} {fd : FuncData} (F : Fun K "unlike_places" "unlike_places" sUnlike f fd) (C_sign_at : Cal P w K mg base 1 "sign_at" ["mark", "place"] spSignAt) (m_len : mg "len" = none) (m_max : mg "max" = none) (m_range : mg "range" = none) : FnOk P w K mg base CX0 2 f fd ["mark", "other"] spUnlike := by
  refine F.ok scUnlike (fun vs H Q E h => ?_) (fun cdv A outer s H vs Q E hr h => ?_)
  · obtain ⟨l, r, rfl, _⟩ := h
    rfl
  · obtain ⟨l, r, rfl, hl, hr0, q⟩ := h
    refine ⟨_, pss_cons (ps_set (i := 2) scUnlike.nd rfl (.inl rfl) (pe_callB (call_max2 rfl) (by rfl) m_max (by decide +kernel) (pa_cons (pe_callB call_len_str (by rfl) m_len PySem.boot_len (pa_cons (pv 0) pa_nil)) (pa_cons (pe_callB call_len_str (by rfl) m_len PySem.boot_len (pa_cons (pv 1) pa_nil)) pa_nil))))
      (pss_one (ps_ret (pe_lc (own := [("place", 3)]) (g := (gName 3)) (tt := (tTest (tOp (rNe) (tCall spSignAt [] E0 (tCons (tVar 0) (tCons (tVar 3) tNil))) (tCall spSignAt [] E0 (tCons (tVar 1) (tCons (tVar 3) tNil)))))) (te := (tVar 3)) rfl scUnlike.nd (pi_range1 rfl m_range (pa_cons (pv 2) pa_nil)) (blkOk_by (own := [("place", 3)]) (N := ["mark", "other", "longest", "place"]) (sc := defScope sUnlike) (by decide +kernel)) (fun _ _ _ _ _ => (pg_name (i := 3) scUnlike.nd rfl (.inl rfl))) (fun _ _ _ _ _ => (pts_one (pt_cmpR op_ne (pe_own C_sign_at hr (by rfl) (pa_cons (pv 0) (pa_cons (pv 3) pa_nil))) (pe_own C_sign_at hr (by rfl) (pa_cons (pv 1) (pa_cons (pv 3) pa_nil))) (nomark _)))) (fun _ _ _ _ _ => (pv 3))))), ?_⟩
    have hz : (SX.S l).length ≤ sizeLine := by rw [SX.S_len]; exact Nat.le_trans hl (by decide)
    have hz2 : (SX.S r).length ≤ sizeLine := by rw [SX.S_len]; exact Nat.le_trans hr0 (by decide)
    refine ⟨_, rfl, _, rfl, hz, _, rfl, _, rfl, hz2, _, _, rfl, ?_⟩
    have em : (if ((SX.S r).length : Int) > ((SX.S l).length : Int) then ((SX.S r).length : Int) else ((SX.S l).length : Int)) = ((max l.length r.length : Nat) : Int) := by
      rw [SX.S_len, SX.S_len]
      split <;> omega
    rw [em]
    refine ⟨_, rfl, _, rfl, by omega, by omega, fun D nD => lc_range (n := max l.length r.length) (fun j H' => Same H H' ∧ H' D = some (.lst ((((List.range j).filter (unB l r)).map fun p : Nat => (p : Int)).map V.int))) ⟨same_upd nD, upd_same⟩ (fun j H' hj hP => ?_) (fun H1 hP => ?_)⟩
    · obtain ⟨sm, eD⟩ := hP
      have e0 : (0 : Int) + (j : Nat) = (j : Int) := by omega
      rw [e0]
      refine ⟨rfl, _, rfl, _, rfl, l, j, rfl, hl, _, rfl, _, rfl, r, j, rfl, hr0, ?_⟩
      have et : (List.range (j + 1)).filter (unB l r) = (List.range j).filter (unB l r) ++ (if unB l r j = true then [j] else []) := by
        rw [List.range_succ, List.filter_append]
        by_cases c : unB l r j = true
        · rw [if_pos c, List.filter_cons_of_pos c]; rfl
        · rw [if_neg c, List.filter_cons_of_neg c]; rfl
      have eb : (!decide (sgV l j = sgV r j)) = unB l r j := by
        unfold unB
        rw [decide_eq_decide.mpr sgV_eq]
      have hl' : ((List.range j).filter (unB l r)).length ≤ j := Nat.le_trans (List.length_filter_le ..) (by rw [List.length_range]; exact Nat.le_refl _)
      refine ⟨by unfold sgV; cases l[j]? <;> cases r[j]? <;> rfl, _, rfl, ?_⟩
      rw [eb]
      cases c : unB l r j with
      | true =>
        rw [if_pos rfl]
        refine ⟨_, rfl, _, eD, small1000 (by rw [List.length_map, List.length_map]; omega), fun b o e => ?_, ?_⟩
        · rw [upd_ne (ne_of_none e nD)]
          exact sm b o e
        · rw [upd_same, et, if_pos c, List.map_append, List.map_append]
          rfl
      | false =>
        rw [if_neg Bool.false_ne_true]
        refine ⟨sm, ?_⟩
        rw [et, if_neg (by rw [c]; decide), List.append_nil]
        exact eD
    · obtain ⟨sm, eD⟩ := hP
      exact q D H1 nD sm eD
theorem ok_Meets {Ms Xs : List Addr} {f c Pme : Addr} {oc kV doc pm ct : Value} {od an : Option Addr} {osl : Array (Option Value)} (lk : K.lookup f = some ⟨oc, od, .func (PySem.W.fnOf "meets_each" "meets_each" (defArgs sMeets) (defBody sMeets) (defScope sMeets) .none kV doc pm an (.ref c) ct), osl⟩) (hcd : PySem.W.codeIn K (.ref c) "meets_each" = true) (TG : GxR.TabB base mg c Pme) (m_all : mg "all" = none) (m_any : mg "any" = none) : FnOk P w K mg base CX0 8 f (PySem.W.fnOf "meets_each" "meets_each" (defArgs sMeets) (defBody sMeets) (defScope sMeets) .none kV doc pm an (.ref c) ct) ["places", "rows"] (spMeets K Ms Xs Pme) := by
  refine fn_of lk hcd scMeets (fun vs H Q E h => ?_) (fun A outer s H vs Q E hr h => ?_)
  · obtain ⟨a, b, ps, rss, rfl, _⟩ := h
    rfl
  · obtain ⟨a, b, ps, rss, rfl, hA, hB, hT, hPt, q⟩ := h
    refine ⟨_, PSs.nox (pss_one (ps_ret (GX.pe_allX (k := 4) (own := [("row", 2)]) (te := fun code1 => (GX.tGx () GX.stAny GX.fiAny (GX.tCj Ms Xs code1) (iList K (tVar 0)) (gName 3) tYes (fun code2 => (tOp (rIn K false) (tVar 3) (tVar 2))) (List.map (fun x => x.2) [("place", 3)]))) (g' := (gName 2)) (tt := tYes) hr scMeets.nd (by rfl) m_all TG.bm (pi_list (pv 1)) (GX.pc_own (Ms := Ms) (Xs := Xs) TG rfl) (GX.gok_by (own := [("row", 2)]) (N := ["places", "rows", "row", "place"]) (sc := defScope sMeets) (by decide +kernel)) (fun _ _ _ _ _ r1 gd1 => (pg_name (i := 2) scMeets.nd rfl (.inr rfl))) (fun _ _ _ _ _ r1 gd1 => pts_nil) (fun _ _ _ code1 _ r1 gd1 => (GX.pe_anyX (k := 1) (own := [("place", 3)]) (g' := (gName 3)) (tt := tYes) r1 scMeets.nd (by rfl) m_any TG.bm (pi_list (pv 0)) (GX.pc_in (Ms := Ms) (Xs := Xs) (code := code1) rfl) (GX.gok_by (own := [("place", 3)]) (N := ["places", "rows", "row", "place"]) (by show GX.gokB _ ({ kind := .function, names := [(".0", .local), ("row", .cell), ("places", .free), ("any", .globalImplicit)], isGenerator := true, isCoroutine := false } : Scope) _ _ = true; decide +kernel)) (fun _ _ _ _ _ r2 gd2 => (pg_name (i := 3) scMeets.nd rfl (.inl rfl))) (fun _ _ _ _ _ r2 gd2 => pts_nil) (fun _ _ _ code2 _ r2 gd2 => (pe_cmpR op_in_seq (pv 3) (pv 2) (by rfl)))))))), ?_⟩
    obtain ⟨us, eB, lB, kB⟩ := id hB
    refine ⟨_, rfl, b, rfl, ⟨us, SqL.of eB⟩, hT, hPt, fun H2 c' P' n2 t2 nX eC tG => GX.turns_all walk_list (fun i => ps.any fun p => decide (p ∈ rss.getD i [])) (fun Hx => GX.NoTab H2 Hx ∧ GX.TQ Ms Xs Hx ∧ GxR.TabG Hx P') ⟨GX.NoTab.refl _, t2, tG⟩ (fun Hx iv => SqL.of ((n2.trans iv.1).lst eB)) (fun i x Hx Hx' Kt Kn hi iv hy kt _ => ?_) (fun Hx b iv hb => ?_)⟩
    · obtain ⟨rfl, hx⟩ := hy
      obtain ⟨n3, t3, g3⟩ := iv
      have hi2 : i < rss.length := by rw [← lB]; exact hi
      obtain ⟨l, e1, e2⟩ := kB i _ (List.getElem?_eq_getElem hi2)
      rw [hx] at e1
      cases e1
      have er : rss.getD i [] = rss[i] := by rw [List.getD_eq_getElem?_getD, List.getElem?_eq_getElem hi2]; rfl
      rw [er] at kt
      refine ⟨rfl, ?_⟩
      refine ⟨_, rfl, a, rfl, ⟨_, SqL.of ((n2.trans n3).lst hA)⟩, c', P', rfl, n3.code eC, nX, g3, t3, fun H4 code4 n4 t4 g4 => GX.turns_any walk_list (fun j => decide (ps.getD j 0 ∈ rss[i])) (fun Hy => GX.NoTab H2 Hy ∧ GX.TQ Ms Xs Hy ∧ GxR.TabG Hy P') ⟨n3.trans n4, t4, g4⟩ (fun Hy iv => SqL.of ((n2.trans iv.1).lst hA)) (fun j y Hy Hy' Kt2 Kn2 hj iv2 hy2 kt2 _ => ?_) (fun Hy b2 iv2 hb2 => ?_)⟩
      · obtain ⟨rfl, hx2⟩ := hy2
        rw [List.length_map] at hj
        rw [List.getElem?_map, List.getElem?_eq_getElem hj] at hx2
        cases hx2
        have ej : ps.getD j 0 = ps[j] := by rw [List.getD_eq_getElem?_getD, List.getElem?_eq_getElem hj]; rfl
        rw [ej] at kt2
        refine ⟨rfl, _, rfl, _, rfl, l, _, rfl, .inl (SqL.of ((n2.trans iv2.1).lst e2)), rfl, ints_flat _, ?_⟩
        show Kt2 (V.bl (inV (.int ps[j]) (rss[i].map V.int))) _
        rw [inV_ints]
        exact kt2 _ iv2
      · have eb : b2 = ps.any fun p => decide (p ∈ rss[i]) := by
          rw [Bool.eq_iff_iff, hb2, List.any_eq_true]
          constructor
          · rintro ⟨j, hj, e⟩
            rw [List.length_map] at hj
            have ej : ps.getD j 0 = ps[j] := by rw [List.getD_eq_getElem?_getD, List.getElem?_eq_getElem hj]; rfl
            rw [ej] at e
            exact ⟨ps[j], List.getElem_mem hj, e⟩
          · rintro ⟨p, hp, e⟩
            obtain ⟨j, hj, rfl⟩ := List.getElem_of_mem hp
            have ej : ps.getD j 0 = ps[j] := by rw [List.getD_eq_getElem?_getD, List.getElem?_eq_getElem hj]; rfl
            exact ⟨j, by rw [List.length_map]; exact hj, by rw [ej]; exact e⟩
        rw [eb]
        exact kt Hy iv2
    · have eb : b = meets ps rss := by
        rw [Bool.eq_iff_iff, hb]
        unfold meets
        rw [List.all_eq_true]
        constructor
        · intro h r hr'
          obtain ⟨i, hi, rfl⟩ := List.getElem_of_mem hr'
          have er : rss.getD i [] = rss[i] := by rw [List.getD_eq_getElem?_getD, List.getElem?_eq_getElem hi]; rfl
          have := h i (by rw [lB]; exact hi)
          rw [er] at this
          exact this
        · intro h i hi
          rw [lB] at hi
          have er : rss.getD i [] = rss[i] := by rw [List.getD_eq_getElem?_getD, List.getElem?_eq_getElem hi]; rfl
          rw [er]
          exact h _ (List.getElem_mem hi)
      rw [eb]
      exact q Hx (n2.trans iv.1) iv.2.1
end

theorem nodup_len {α : Type} [DecidableEq α] : ∀ {l m : List α}, l.Nodup → (∀ x ∈ l, x ∈ m) → l.length ≤ m.length
  | [], _, _, _ => Nat.zero_le _
  | x :: r, m, nd, h => by
    have nx := (List.nodup_cons.mp nd).1
    have ih := nodup_len (m := m.erase x) (List.nodup_cons.mp nd).2 fun y hy => by
      have hne : y ≠ x := fun e => nx (e ▸ hy)
      exact (List.mem_erase_of_ne hne).mpr (h y (List.mem_cons_of_mem _ hy))
    have e := List.length_erase_of_mem (h x (List.mem_cons_self ..))
    have pos : 0 < m.length := List.length_pos_of_mem (h x (List.mem_cons_self ..))
    rw [List.length_cons]
    omega

/-! ### rising lists of places, by size and order -/
def Inc (n : Int) (c : List Int) : Prop := c.Pairwise (· < ·) ∧ ∀ x ∈ c, 0 ≤ x ∧ x < n
def span (lo hi : Int) : List Int := (List.range (hi - lo).toNat).map fun j : Nat => lo + (j : Int)
theorem span_mem {lo hi x : Int} : x ∈ span lo hi ↔ lo ≤ x ∧ x < hi := by
  unfold span
  rw [List.mem_map]
  constructor
  · rintro ⟨j, hj, rfl⟩
    have := List.mem_range.mp hj
    omega
  · intro h
    exact ⟨(x - lo).toNat, List.mem_range.mpr (by omega), by omega⟩
theorem span_inc (lo hi : Int) : (span lo hi).Pairwise (· < ·) := by
  unfold span
  rw [List.pairwise_map]
  exact List.Pairwise.imp (fun h => by omega) List.pairwise_lt_range
def startF (ps : List Int) : Int := match ps.getLast? with | none => 0 | some x => x + 1
theorem startF_nil : startF [] = 0 := rfl
theorem startF_snoc (ps : List Int) (x : Int) : startF (ps ++ [x]) = x + 1 := by
  unfold startF
  rw [List.getLast?_append]
  rfl
def moreF (n : Int) (cs : List (List Int)) : List (List Int) := cs.flatMap fun ps => (span (startF ps) n).map fun p => ps ++ [p]
def combF (n : Int) : Nat → List (List Int)
  | 0 => [[]]
  | k + 1 => moreF n (combF n k)
theorem snoc_of (c : List Int) (h : c ≠ []) : ∃ c' x, c = c' ++ [x] := ⟨_, _, (List.dropLast_concat_getLast h).symm⟩
theorem Inc.snoc {n : Int} {c : List Int} {x : Int} : Inc n (c ++ [x]) ↔ Inc n c ∧ startF c ≤ x ∧ 0 ≤ x ∧ x < n := by
  unfold Inc
  rw [List.pairwise_append]
  constructor
  · rintro ⟨⟨h1, _, h3⟩, h4⟩
    refine ⟨⟨h1, fun y hy => h4 y (List.mem_append_left _ hy)⟩, ?_, h4 x (List.mem_append_right _ (List.mem_singleton.mpr rfl))⟩
    by_cases e : c = []
    · rw [e, startF_nil]; exact (h4 x (List.mem_append_right _ (List.mem_singleton.mpr rfl))).1
    · obtain ⟨c', y, rfl⟩ := snoc_of c e
      rw [startF_snoc]
      have := h3 y (List.mem_append_right _ (List.mem_singleton.mpr rfl)) x (List.mem_singleton.mpr rfl)
      omega
  · rintro ⟨⟨h1, h2⟩, h3, h4, h5⟩
    refine ⟨⟨h1, by simp, fun y hy z hz => ?_⟩, fun y hy => ?_⟩
    · rw [List.mem_singleton.mp hz]
      by_cases e : c = []
      · rw [e] at hy; cases hy
      · obtain ⟨c', w, rfl⟩ := snoc_of c e
        rw [startF_snoc] at h3
        rcases List.mem_append.mp hy with q | q
        · have := (List.pairwise_append.mp h1).2.2 y q w (List.mem_singleton.mpr rfl)
          omega
        · rw [List.mem_singleton.mp q]; omega
    · rcases List.mem_append.mp hy with q | q
      · exact h2 y q
      · rw [List.mem_singleton.mp q]; exact ⟨h4, h5⟩
theorem comb_mem {n : Int} : ∀ {k : Nat} {c : List Int}, c ∈ combF n k ↔ Inc n c ∧ c.length = k
  | 0, c => by
    show c ∈ [[]] ↔ _
    rw [List.mem_singleton]
    constructor
    · rintro rfl
      exact ⟨⟨.nil, fun _ h => nomatch h⟩, rfl⟩
    · rintro ⟨_, h⟩
      exact List.length_eq_zero_iff.mp h
  | k + 1, c => by
    show c ∈ moreF n (combF n k) ↔ _
    unfold moreF
    rw [List.mem_flatMap]
    constructor
    · rintro ⟨ps, hps, hc⟩
      obtain ⟨x, hx, rfl⟩ := List.mem_map.mp hc
      obtain ⟨h1, h2⟩ := comb_mem.mp hps
      obtain ⟨a1, a2⟩ := span_mem.mp hx
      have s0 : 0 ≤ startF ps := by
        by_cases e : ps = []
        · rw [e, startF_nil]; omega
        · obtain ⟨c', y, rfl⟩ := snoc_of ps e
          rw [startF_snoc]
          have := h1.2 y (List.mem_append_right _ (List.mem_singleton.mpr rfl))
          omega
      exact ⟨Inc.snoc.mpr ⟨h1, a1, by omega, a2⟩, by rw [List.length_append, h2]; rfl⟩
    · rintro ⟨h1, h2⟩
      obtain ⟨c', x, rfl⟩ := snoc_of c (fun z => by rw [z] at h2; cases h2)
      obtain ⟨i1, i2, i3, i4⟩ := Inc.snoc.mp h1
      rw [List.length_append] at h2
      exact ⟨c', comb_mem.mpr ⟨i1, Nat.succ.inj h2⟩, List.mem_map.mpr ⟨x, span_mem.mpr ⟨i2, i4⟩, rfl⟩⟩
theorem lt_app : ∀ {ps qs : List Int} (a b : List Int), ps.length = qs.length → ps < qs → ps ++ a < qs ++ b
  | [], [], _, _, _, h => absurd h (by simp)
  | p :: ps, q :: qs, a, b, hl, h => by
    rw [List.cons_lt_cons_iff] at h
    show p :: (ps ++ a) < q :: (qs ++ b)
    rw [List.cons_lt_cons_iff]
    rcases h with h | ⟨h1, h2⟩
    · exact .inl h
    · exact .inr ⟨h1, lt_app a b (Nat.succ.inj hl) h2⟩
theorem lt_same : ∀ (ps : List Int) {a b : List Int}, a < b → ps ++ a < ps ++ b
  | [], _, _, h => h
  | p :: ps, a, b, h => by
    show p :: (ps ++ a) < p :: (ps ++ b)
    rw [List.cons_lt_cons_iff]
    exact .inr ⟨rfl, lt_same ps h⟩
theorem comb_lt (n : Int) : ∀ k : Nat, (combF n k).Pairwise (· < ·)
  | 0 => by show List.Pairwise _ [[]]; simp
  | k + 1 => by
    show (moreF n (combF n k)).Pairwise (· < ·)
    unfold moreF
    rw [List.pairwise_flatMap]
    refine ⟨fun ps _ => ?_, ?_⟩
    · rw [List.pairwise_map]
      refine List.Pairwise.imp (fun {x y} h => ?_) (span_inc _ _)
      exact lt_same ps (by rw [List.cons_lt_cons_iff]; exact .inl h)
    · refine List.Pairwise.imp_of_mem (fun {ps qs} h1 h2 h => ?_) (comb_lt n k)
      intro x hx y hy
      obtain ⟨a, _, rfl⟩ := List.mem_map.mp hx
      obtain ⟨b, _, rfl⟩ := List.mem_map.mp hy
      exact lt_app _ _ ((comb_mem.mp h1).2.trans (comb_mem.mp h2).2.symm) h
theorem list_tri : ∀ {a b : List Int}, a.length = b.length → ¬ a < b → ¬ b < a → a = b
  | [], [], _, _, _ => rfl
  | x :: a, y :: b, hl, h1, h2 => by
    rw [List.cons_lt_cons_iff] at h1 h2
    have e : x = y := by
      by_cases c : x < y
      · exact absurd (.inl c) h1
      · by_cases c2 : y < x
        · exact absurd (.inl c2) h2
        · omega
    subst e
    rw [list_tri (Nat.succ.inj hl) (fun z => h1 (.inr ⟨rfl, z⟩)) (fun z => h2 (.inr ⟨rfl, z⟩))]
theorem inc_len {n : Nat} {c : List Int} (h : Inc n c) : c.length ≤ n := by
  have e : ((List.range n).map fun k : Nat => (k : Int)).length = n := by rw [List.length_map, List.length_range]
  rw [← e]
  refine nodup_len (List.Pairwise.imp (fun h => Int.ne_of_lt h) h.1) fun x hx => ?_
  have := h.2 x hx
  exact List.mem_map.mpr ⟨x.toNat, List.mem_range.mpr (by omega), by omega⟩
theorem span_full (n : Nat) : Inc n (span 0 n) ∧ (span 0 n).length = n := by
  refine ⟨⟨span_inc _ _, fun x hx => span_mem.mp hx⟩, ?_⟩
  unfold span
  rw [List.length_map, List.length_range]
  omega
theorem comb_ne {n k : Nat} (h : k ≤ n) : combF n k ≠ [] := fun z => by
  obtain ⟨h1, h2⟩ := span_full k
  have : span 0 k ∈ combF n k := comb_mem.mpr ⟨⟨h1.1, fun x hx => by have := h1.2 x hx; omega⟩, h2⟩
  rw [z] at this
  cases this
theorem comb_short : ∀ n, n < 11 → ∀ k, k < 12 → (combF ((n : Nat) : Int) k).length ≤ 300 := by
  have : ((List.range 11).all fun n => (List.range 12).all fun k => decide ((combF ((n : Nat) : Int) k).length ≤ 300)) = true := by decide +kernel
  intro n hn k hk
  exact of_decide_eq_true (List.all_eq_true.mp (List.all_eq_true.mp this n (List.mem_range.mpr hn)) k (List.mem_range.mpr hk))
def Hits (ms : List (List Nat)) (mk : List Nat) (c : List Int) : Prop := ∀ o ∈ ms, o ≠ mk → ∃ p ∈ c, p ∈ unl mk o
/-- the fewest places, the first of them -/
structure Best (ms : List (List Nat)) (mk : List Nat) (ps : List Int) : Prop where
  inc : Inc 10 ps
  hits : Hits ms mk ps
  least : ∀ c, Inc 10 c → Hits ms mk c → ps.length < c.length ∨ (ps.length = c.length ∧ ¬ c < ps)
theorem Best.unique {ms : List (List Nat)} {mk : List Nat} {ps qs : List Int} (h : Best ms mk ps) (g : Best ms mk qs) : ps = qs := by
  rcases h.least qs g.inc g.hits with a | ⟨a1, a2⟩
  · rcases g.least ps h.inc h.hits with b | ⟨b1, _⟩ <;> omega
  · rcases g.least ps h.inc h.hits with b | ⟨b1, b2⟩
    · omega
    · exact list_tri a1 b2 a2
theorem Best.mem {ms ms' : List (List Nat)} {mk : List Nat} {ps : List Int} (h : Best ms mk ps) (e : ∀ o, o ∈ ms ↔ o ∈ ms') : Best ms' mk ps :=
  ⟨h.inc, fun o ho => h.hits o ((e o).mpr ho), fun c hc hh => h.least c hc fun o ho => hh o ((e o).mp ho)⟩
/-- as the program finds it -/
theorem Best.of {ms : List (List Nat)} {mk : List Nat} {n k : Nat} {pre post : List (List Int)} {ps : List Int} (hn : n ≤ 10) (hlen : ∀ o ∈ ms, o.length ≤ n) (hmk : mk.length ≤ n) (e : combF n k = pre ++ ps :: post) (hh : Hits ms mk ps) (h1 : ∀ c ∈ pre, ¬ Hits ms mk c) (h2 : ∀ j, j < k → ∀ c ∈ combF n j, ¬ Hits ms mk c) : Best ms mk ps := by
  have hp : ps ∈ combF n k := by rw [e]; exact List.mem_append_right _ (List.mem_cons_self ..)
  obtain ⟨i1, i2⟩ := comb_mem.mp hp
  have small : ∀ c, Inc 10 c → Hits ms mk c → ∃ c', Inc n c' ∧ Hits ms mk c' ∧ c'.length ≤ c.length ∧ (c'.length = c.length → c' = c) := fun c hc hcs => by
    refine ⟨c.filter fun x => decide (x < n), ⟨hc.1.filter _, fun x hx => ?_⟩, fun o ho hne => ?_, List.length_filter_le .., fun el => List.filter_eq_self.mpr (List.length_filter_eq_length_iff.mp el)⟩
    · obtain ⟨a, b⟩ := List.mem_filter.mp hx
      exact ⟨(hc.2 x a).1, of_decide_eq_true b⟩
    · obtain ⟨p, hp, hu⟩ := hcs o ho hne
      refine ⟨p, List.mem_filter.mpr ⟨hp, decide_eq_true ?_⟩, hu⟩
      obtain ⟨q, rfl, hq⟩ := unl_mem.mp hu
      have := hlen o ho
      by_cases c1 : q < n
      · omega
      · rw [List.getElem?_eq_none (by omega), List.getElem?_eq_none (by omega)] at hq
        exact absurd rfl hq
  refine ⟨⟨i1.1, fun x hx => by have := i1.2 x hx; omega⟩, hh, fun c hc hcs => ?_⟩
  obtain ⟨c', g1, g2, g3, g4⟩ := small c hc hcs
  have ge : k ≤ c'.length := by
    by_cases q : c'.length < k
    · exact absurd g2 (h2 _ q c' (comb_mem.mpr ⟨g1, rfl⟩))
    · omega
  by_cases eq : ps.length = c.length
  · refine .inr ⟨eq, fun lt => ?_⟩
    have ec := g4 (by omega)
    subst ec
    have hm : c' ∈ combF n k := comb_mem.mpr ⟨g1, by omega⟩
    rw [e] at hm
    have srt := comb_lt n k
    rw [e, List.pairwise_append] at srt
    rcases List.mem_append.mp hm with z | z
    · exact h1 c' z g2
    · rcases List.mem_cons.mp z with z | z
      · rw [z] at lt; exact List.lt_irrefl _ lt
      · have := (List.pairwise_cons.mp srt.2.1).1 c' z
        exact List.lt_irrefl _ (List.lt_trans lt this)
  · exact .inl (by omega)

/-! ### choices with one place more -/
/-- all lists in the list at a are new since H0 -/
def NewE (H0 H : Hp) (a : Addr) : Prop := ∀ us, H a = some (.lst us) → ∀ (i : Nat) l, us[i]? = some (.ref l) → H0 l = none
def spMore : Sp := fun vs H Q _ => ∃ (a : Addr) (n : Nat) (cs : List (List Int)), vs = [.ref a, .int (n : Int)] ∧ LLA H a cs ∧ n ≤ 12 ∧ cs.length ≤ 300 ∧ (moreF n cs).length ≤ 300 ∧ (∀ c ∈ cs, Inc n c) ∧ ∀ p H', H p = none → Same H H' → LLA H' p (moreF n cs) → NewE H H' p → Q (.ref p) H'
abbrev sMore : Stmt := topS 4
theorem scMore : FnScope ["choices", "many", "longer", "places", "start", "place"] ["choices", "many"] (defScope sMore) := ⟨rfl, rfl, rfl, by decide +kernel, rfl, by decide +kernel, by decide +kernel⟩
theorem moreF_snoc (n : Int) (cs : List (List Int)) (c : List Int) : moreF n (cs ++ [c]) = moreF n cs ++ (span (startF c) n).map fun p => c ++ [p] := by
  unfold moreF
  rw [List.flatMap_append]
  simp
theorem small1000' {n : Nat} (h : n ≤ 900) : n ≤ sizeLine := Nat.le_trans h (by decide)
section
variable {K : PySem.W.Frag} {mg : Str → Option Value} {P : Program} {w : World} {base : Heap}
theorem ok_More {f : Addr} {fd : FuncData} (F : Fun K "one_place_more" "one_place_more" sMore f fd) (m_range : mg "range" = none) : FnOk P w K mg base CX0 1 f fd ["choices", "many"] spMore := by
  refine F.ok scMore (fun vs H Q E h => ?_) (fun cdv A outer s H vs Q E hr h => ?_)
  · obtain ⟨a, n, cs, rfl, _⟩ := h
    rfl
  · obtain ⟨a, n, cs, rfl, hA, hn, hcl, hml, hinc, q⟩ := h
    refine ⟨_, pss_cons (ps_set (i := 2) scMore.nd rfl (.inl rfl) (pe_lst pa_nil))
      (pss_cons (ps_for PassesOwn.never rfl (pi_list (pv 0)) (pg_name (i := 3) scMore.nd rfl (.inr rfl))
        (pss_cons (ps_set (i := 4) scMore.nd rfl (.inl rfl) (pe_mid (pe_ifExp (pt_truth (pv 3) (by intro _; rfl)) (pe_op op_add (pe_ix ix_list (pv 3) (pe_un un_neg pe_int) (fun _ _ => rfl)) pe_int) pe_int)))
        (pss_one (ps_expr (pe_bm PySem.F.plainAttrs_list PySem.F.slot_list_extend PySem.F.type_list_extend mt_extend (pv 2) (pa_cons (pe_lc (own := [("place", 5)]) (g := (gName 5)) (tt := tYes) (te := (tLst (StX.tStar K (tVar 3) (tCons (tVar 5) tNil)))) rfl scMore.nd (pi_range2 rfl m_range (pa_cons (pv 4) (pa_cons (pv 1) pa_nil))) (blkOk_by (own := [("place", 5)]) (N := ["choices", "many", "longer", "places", "start", "place"]) (sc := defScope sMore) (by decide +kernel)) (fun _ _ _ _ _ => (pg_name (i := 5) scMore.nd rfl (.inl rfl))) (fun _ _ _ _ _ => pts_nil) (fun _ _ _ _ _ => (pe_lst (StX.pa_star (pv 3) (pa_cons (pv 5) pa_nil))))) pa_nil))))))
      (pss_one (ps_ret (pv 2)))), ?_⟩
    obtain ⟨us, ea, lu, ku⟩ := id hA
    refine ⟨Nat.zero_le _, fun f nf => ?_⟩
    have sf := same_upd (o := .lst []) nf
    refine ⟨_, rfl, a, rfl, ⟨us, SqL.of (sf _ _ ea)⟩, for_list (xs := us) (fun i σ Hx => ∃ y3 y4 : Option V, σ = [some (.ref a), some (.int (n : Int)), some (.ref f), y3, y4, none] ∧ Same H Hx ∧ LLA Hx f (moreF n (cs.take i)) ∧ NewE H Hx f) ⟨_, _, rfl, sf, ⟨[], upd_same, rfl, fun i rs e => by rw [List.take_zero] at e; cases e⟩, fun us e i l el => by rw [upd_same] at e; cases e; cases el⟩ (fun i σ Hx _ hP => ?_) (fun i x σ Hx hx hP => ?_) (fun σ Hx hP => ?_)⟩
    · obtain ⟨y3, y4, rfl, sm, _⟩ := hP
      exact SqL.of (sm _ _ ea)
    · obtain ⟨y3, y4, rfl, sm, hF, hN⟩ := hP
      have hi : i < cs.length := by rw [← lu]; exact (List.getElem?_eq_some_iff.mp hx).1
      obtain ⟨l, e1, e2⟩ := ku i _ (List.getElem?_eq_getElem hi)
      rw [hx] at e1
      cases e1
      have ec : cs[i]? = some cs[i] := List.getElem?_eq_getElem hi
      have hci := hinc _ (List.getElem_mem hi)
      have et : cs.take (i + 1) = cs.take i ++ [cs[i]] := by rw [List.take_add_one, ec]; rfl
      have e2' := sm _ _ e2
      have hlc := inc_len hci
      generalize cs[i] = c at e2 hci et hlc e2'
      have nlf : l ≠ f := ne_of_none e2 nf
      refine ⟨fun v H' => v = .int (startF c) ∧ H' = Hx, ⟨_, rfl, !(c.map V.int).isEmpty, .inl ⟨_, SqL.of e2', rfl⟩, ?_⟩, ?_⟩
      · by_cases e : c = []
        · subst e
          exact ⟨rfl, rfl⟩
        · obtain ⟨c', w, rfl⟩ := snoc_of c e
          have tr : (!((c' ++ [w]).map V.int).isEmpty) = true := by simp
          rw [tr]
          refine ⟨_, rfl, 1, rfl, l, _, -1, .int w, rfl, rfl, SqL.of e2', by rw [List.map_append]; exact atI_last _ _, w, 1, rfl, rfl, by rw [startF_snoc], rfl⟩
      rintro v H' ⟨rfl, rfl⟩
      obtain ⟨uf, ef, lf, kf⟩ := hF
      have s0 : 0 ≤ startF c := by
        by_cases e : c = []
        · rw [e, startF_nil]; omega
        · obtain ⟨c', w, rfl⟩ := snoc_of c e
          rw [startF_snoc]
          have := hci.2 w (List.mem_append_right _ (List.mem_singleton.mpr rfl))
          omega
      have s1 : startF c ≤ n := by
        by_cases e : c = []
        · rw [e, startF_nil]; omega
        · obtain ⟨c', w, rfl⟩ := snoc_of c e
          rw [startF_snoc]
          have := hci.2 w (List.mem_append_right _ (List.mem_singleton.mpr rfl))
          omega
      refine ⟨_, rfl, .inl ⟨rfl, _, SqL.of ef⟩, _, rfl, _, rfl, _, _, rfl, ⟨by omega, by omega, by omega, by omega⟩, fun D nD => lc_range (lo := startF c) (n := ((n : Int) - startF c).toNat) (fun j H2 => Same H' H2 ∧ ∃ ud, H2 D = some (.lst ud) ∧ ud.length = j ∧ ∀ t, t < j → ∃ b, ud[t]? = some (.ref b) ∧ IntsA H2 b (c ++ [startF c + (t : Int)]) ∧ b ≠ D ∧ H b = none) ⟨same_upd nD, [], upd_same, rfl, fun t ht => absurd ht (Nat.not_lt_zero _)⟩ (fun j H2 hj hP => ?_) (fun H2 hP => ?_)⟩
      · obtain ⟨sm2, ud, eD, ld, kd⟩ := hP
        refine ⟨rfl, ?_⟩
        refine ⟨_, rfl, l, _, rfl, .inr (SqL.of (sm2 _ _ e2')), _, rfl, ?_⟩
        refine ⟨small1000' (by rw [List.length_append, List.length_map]; show _ + 1 ≤ _; omega), fun b nb => ?_⟩
        have nbD : b ≠ D := fun z => by rw [z, eD] at nb; cases nb
        have sb := same_upd (o := .lst (c.map V.int ++ [.int (startF c + (j : Int))])) nb
        refine ⟨ud, sb _ _ eD, small1000 (by omega), fun x o e => ?_, ud ++ [.ref b], upd_same, by rw [List.length_append, ld]; rfl, fun t ht => ?_⟩
        · rw [upd_ne (ne_of_none e nD)]
          exact sb _ _ (sm2 x o e)
        · by_cases e : t < j
          · obtain ⟨b', f1, f2, f3, f4⟩ := kd t e
            refine ⟨b', by rw [List.getElem?_append_left (by omega)]; exact f1, ?_, f3, f4⟩
            show upd _ _ _ _ = _
            rw [upd_ne f3]
            exact sb _ _ f2
          · have e : t = j := by omega
            subst e
            refine ⟨b, by rw [List.getElem?_append_right (by omega), ld, Nat.sub_self]; rfl, ?_, nbD, sm.free (sm2.free nb)⟩
            show upd _ _ _ _ = _
            rw [upd_ne nbD, upd_same, List.map_append]
            rfl
      · obtain ⟨sm2, ud, eD, ld, kd⟩ := hP
        have ef2 := sm2 _ _ ef
        have nfD : f ≠ D := ne_of_none ef nD
        have lsp : (span (startF c) n).length = ((n : Int) - startF c).toNat := by unfold span; rw [List.length_map, List.length_range]
        have lm : (moreF n (cs.take i)).length ≤ 300 := by
          have e : (moreF n cs).length = (moreF n (cs.take i)).length + (moreF n (cs.drop i)).length := by
            rw [← List.length_append]
            congr 1
            unfold moreF
            rw [← List.flatMap_append, List.take_append_drop]
          omega
        refine ⟨f, D, uf, ud, rfl, rfl, ef2, eD, Nat.le_trans (show uf.length + ud.length ≤ 900 by omega) (by decide), _, _, rfl, fun b o e => ?_, ⟨uf ++ ud, upd_same, ?_, fun t rs er => ?_⟩, fun us e t l el => ?_⟩
        · rw [upd_ne (ne_of_none e nf)]
          exact sm2 _ _ (sm b o e)
        · rw [et, moreF_snoc, List.length_append, List.length_append, lf, ld, List.length_map, lsp]
        · rw [et, moreF_snoc] at er
          by_cases c1 : t < uf.length
          · rw [List.getElem?_append_left (by omega)] at er
            obtain ⟨b, f1, f2⟩ := kf t rs er
            have nbf : b ≠ f := fun z => by
              have f2 : H' b = some (.lst (rs.map V.int)) := f2
              rw [z, ef] at f2
              have hz : uf = rs.map V.int := HO.lst.inj (Option.some.inj f2)
              have := hz ▸ f1
              rw [List.getElem?_map] at this
              cases h : rs[t]? with
              | none => rw [h] at this; cases this
              | some v => rw [h] at this; cases this
            refine ⟨b, by rw [List.getElem?_append_left c1]; exact f1, ?_⟩
            show upd _ _ _ _ = _
            rw [upd_ne nbf]
            exact sm2 _ _ f2
          · rw [List.getElem?_append_right (by omega), List.getElem?_map] at er
            unfold span at er
            rw [List.getElem?_map] at er
            have lt2 : t - uf.length < ((n : Int) - startF c).toNat := by
              by_cases z : t - uf.length < ((n : Int) - startF c).toNat
              · exact z
              · rw [List.getElem?_eq_none (by rw [List.length_range]; omega)] at er
                cases er
            rw [← lf, List.getElem?_range lt2] at er
            cases er
            obtain ⟨b, f1, f2, f3, _⟩ := kd _ lt2
            refine ⟨b, by rw [List.getElem?_append_right (by omega)]; exact f1, ?_⟩
            have nbf : b ≠ f := fun z => by
              have f2 : H2 b = some (.lst ((c ++ [startF c + ((t - uf.length : Nat) : Int)]).map V.int)) := f2
              rw [z, ef2] at f2
              have hz : uf = (c ++ [startF c + ((t - uf.length : Nat) : Int)]).map V.int := HO.lst.inj (Option.some.inj f2)
              have hu : 0 < uf.length := by rw [hz]; simp
              have h0 : uf[0]? = ((c ++ [startF c + ((t - uf.length : Nat) : Int)]).map V.int)[0]? := by rw [← hz]
              obtain ⟨b0, g1, _⟩ := kf 0 _ (List.getElem?_eq_getElem (by omega))
              rw [g1, List.getElem?_map] at h0
              cases h : (c ++ [startF c + ((t - uf.length : Nat) : Int)])[0]? with
              | none => rw [h] at h0; cases h0
              | some v => rw [h] at h0; cases h0
            show upd _ _ _ _ = _
            rw [upd_ne nbf]
            exact f2
        · rw [upd_same] at e
          cases e
          by_cases c1 : t < uf.length
          · rw [List.getElem?_append_left c1] at el
            exact hN uf ef t l el
          · rw [List.getElem?_append_right (by omega)] at el
            have lt := (List.getElem?_eq_some_iff.mp el).1
            rw [ld] at lt
            obtain ⟨b, f1, _, _, f4⟩ := kd _ lt
            rw [f1] at el
            cases el
            exact f4
    · obtain ⟨y3, y4, rfl, sm, hF, hN⟩ := hP
      rw [lu, List.take_length] at hF
      exact ⟨_, rfl, q f Hx nf sm hF hN⟩
end

/-! ### places_apart -/
abbrev rowsF (ms : List (List Nat)) (mk : List Nat) : List (List Int) := (ms.filter fun o => !decide (o = mk)).map (unl mk)
theorem meets_hits {ms : List (List Nat)} {mk : List Nat} {ps : List Int} : meets ps (rowsF ms mk) = true ↔ Hits ms mk ps := by
  unfold meets Hits
  rw [List.all_eq_true]
  constructor
  · intro h o ho hne
    have := h (unl mk o) (List.mem_map_of_mem (List.mem_filter.mpr ⟨ho, by simpa using hne⟩))
    obtain ⟨p, hp, e⟩ := List.any_eq_true.mp this
    exact ⟨p, hp, of_decide_eq_true e⟩
  · intro h r hr
    obtain ⟨o, ho, rfl⟩ := List.mem_map.mp hr
    obtain ⟨h1, h2⟩ := List.mem_filter.mp ho
    obtain ⟨p, hp, e⟩ := h o h1 (by simpa using h2)
    exact List.any_eq_true.mpr ⟨p, hp, decide_eq_true e⟩
def spApart (K : PySem.W.Frag) (Ms Xs : List Addr) (Pm Pa : Addr) : Sp := fun vs H Q _ => ∃ (a : Addr) (ms : List (List Nat)) (mk : List Nat), vs = [.ref a, .str (SX.S mk)] ∧ SqH H a (txs ms) ∧ ms.length ≤ 60 ∧ mk ∈ ms ∧ (∀ o ∈ ms, o.length ≤ 10) ∧ GX.TQ Ms Xs H ∧ Pm ∈ Ms ∧ Pa ∈ Ms ∧
  ∀ p H2 ps, H p = none → GX.NoTab H H2 → GX.TQ Ms Xs H2 → IntsA H2 p ps → Best ms mk ps → Q (.ref p) H2
theorem SqH.noTab {H H' : Hp} {a : Addr} {xs : List V} (h : SqH H a xs) (s : GX.NoTab H H') : SqH H' a xs := h.elim (fun e => .inl (s.lst e)) (fun e => .inr (s.tup e))
theorem SqH.sq {K : PySem.W.Frag} {H : Hp} {a : Addr} {xs : List V} (h : SqH H a xs) : Sq K H a xs := h.elim (fun e => .inl (SqL.of e)) (fun e => .inr (.inl (.inl e)))
theorem iseq_lc {K : PySem.W.Frag} {H : Hp} {a : Addr} {xs : List V} {g : TG} {tt : TT} {te : TE} {vs : List Nat} {σ : L2.St} {Qd : Addr → Hp → Prop} (h : SqH H a xs) (r : ∀ J G, Walk J xs.length G (YAt xs) → (∀ H', GX.NoTab H H' → G H') → ∀ D, H D = none → LcR J g tt te vs σ D Qd H) :
    ((∃ xs, SqL K H a xs) ∧ ∀ D, H D = none → LcR (Itl K a) g tt te vs σ D Qd H) ∨ ((∃ xs, SqT K H a xs) ∧ ∀ D, H D = none → LcR (Itt K a) g tt te vs σ D Qd H) := by
  rcases h with e | e
  · exact .inl ⟨⟨_, SqL.of e⟩, r _ _ walk_list fun H' n => SqL.of (n.lst e)⟩
  · exact .inr ⟨⟨_, .inl (.inl e)⟩, r _ _ walk_tup fun H' n => .inl (.inl (n.tup e))⟩
abbrev GxJ {α : Type} (J : It) (a0 : α) (Stp : VK → GX.Stps α) (Fin : VK → α → Hp → Prop) (tc : GX.TC) (g : TG) (tt : TT) (te : Value → TE) (vs : List Nat) (σ : L2.St) (H : Hp) (Q : VK) : Prop := tc σ H fun code H2 => ∃ W : Nat → Nat → α → Hp → Prop, (∃ m, W 0 m a0 H2) ∧ GX.TurnsR (Stp Q) (Fin Q) J g tt (te code) vs σ W
theorem iseq_gx {α : Type} {a0 : α} {Stp : VK → GX.Stps α} {Fin : VK → α → Hp → Prop} {tc : GX.TC} {te : Value → TE} {Q : VK} {K : PySem.W.Frag} {H : Hp} {a : Addr} {xs : List V} {g : TG} {tt : TT} {vs : List Nat} {σ : L2.St} (h : SqH H a xs) (r : ∀ J G, Walk J xs.length G (YAt xs) → (∀ H', GX.NoTab H H' → G H') → GxJ J a0 Stp Fin tc g tt te vs σ H Q) :
    ((∃ xs, SqL K H a xs) ∧ GxJ (Itl K a) a0 Stp Fin tc g tt te vs σ H Q) ∨ ((∃ xs, SqT K H a xs) ∧ GxJ (Itt K a) a0 Stp Fin tc g tt te vs σ H Q) := by
  rcases h with e | e
  · exact .inl ⟨⟨_, SqL.of e⟩, r _ _ walk_list fun H' n => SqL.of (n.lst e)⟩
  · exact .inr ⟨⟨_, .inl (.inl e)⟩, r _ _ walk_tup fun H' n => .inl (.inl (n.tup e))⟩
theorem NoTab.same {H H' : Hp} (s : Same H H') : GX.NoTab H H' := .of s
theorem rows_snoc {ms : List (List Nat)} {mk : List Nat} {i : Nat} {o : List Nat} (e : ms[i]? = some o) : rowsF (ms.take (i + 1)) mk = rowsF (ms.take i) mk ++ (if o = mk then [] else [unl mk o]) := by
  unfold rowsF
  rw [List.take_add_one, e, List.filter_append, List.map_append]
  by_cases c : o = mk
  · rw [if_pos c]; simp [c]
  · rw [if_neg c]; simp [c]
theorem unl_ne {l r : List Nat} (h : l ≠ r) : ∃ p, p ∈ unl l r := by
  by_cases c : ∃ p : Nat, l[p]? ≠ r[p]?
  · obtain ⟨p, hp⟩ := c
    exact ⟨(p : Int), unl_mem.mpr ⟨p, rfl, hp⟩⟩
  · exact absurd (List.ext_getElem? fun p => Classical.byContradiction fun z => c ⟨p, z⟩) h
theorem hits_all {ms : List (List Nat)} {mk : List Nat} {n : Nat} (hall : ∀ o ∈ ms, o.length ≤ n) (hmk : mk ∈ ms) : Hits ms mk (span 0 n) := fun o ho ne => by
  obtain ⟨p, hp⟩ := unl_ne (Ne.symm ne)
  obtain ⟨q, rfl, hq⟩ := unl_mem.mp hp
  have h1 := hall o ho
  have h2 := hall mk hmk
  refine ⟨_, span_mem.mpr ⟨by omega, ?_⟩, hp⟩
  by_cases c : q < n
  · omega
  · rw [List.getElem?_eq_none (by omega), List.getElem?_eq_none (by omega)] at hq
    exact absurd rfl hq
theorem comb_end {n k : Nat} (h : combF n k ≠ []) : k ≤ n := by
  obtain ⟨c, hc⟩ := List.exists_mem_of_ne_nil _ h
  obtain ⟨h1, h2⟩ := comb_mem.mp hc
  rw [← h2]
  exact inc_len h1
/-- what stands while choices are gone through -/
structure ApW (Ms Xs : List Addr) (H H1 : Hp) (ms : List (List Nat)) (mk : List Nat) (n k : Nat) (c : Addr) (Hx : Hp) : Prop where
  nt : GX.NoTab H1 Hx
  tq : GX.TQ Ms Xs Hx
  ll : LLA Hx c (combF n k)
  ne : NewE H Hx c
  no : ∀ j, j < k → ∀ cc ∈ combF n j, ¬ Hits ms mk cc
abbrev sApart : Stmt := topS 5
theorem scApart : FnScope ["marks", "mark", "rows", "many", "choices", "places", "other", "one"] ["marks", "mark"] (defScope sApart) := ⟨rfl, rfl, rfl, by decide +kernel, rfl, by decide +kernel, by decide +kernel⟩
section
variable {K : PySem.W.Frag} {mg : Str → Option Value} {P : Program} {w : World} {base : Heap} {Pme : Addr}
theorem ok_Apart {Ms Xs : List Addr} {f c Ppa : Addr} {oc kV doc pm ct : Value} {od an : Option Addr} {osl : Array (Option Value)} (lk : K.lookup f = some ⟨oc, od, .func (PySem.W.fnOf "places_apart" "places_apart" (defArgs sApart) (defBody sApart) (defScope sApart) .none kV doc pm an (.ref c) ct), osl⟩) (hcd : PySem.W.codeIn K (.ref c) "places_apart" = true) (TG : GxR.TabB base mg c Ppa) (C_unlike_places : Cal P w K mg base 2 "unlike_places" ["mark", "other"] spUnlike) (C_meets_each : Cal P w K mg base 8 "meets_each" ["places", "rows"] (spMeets K Ms Xs Pme)) (C_one_place_more : Cal P w K mg base 1 "one_place_more" ["choices", "many"] spMore) (m_max : mg "max" = none) (m_len : mg "len" = none) : FnOk P w K mg base CX0 9 f (PySem.W.fnOf "places_apart" "places_apart" (defArgs sApart) (defBody sApart) (defScope sApart) .none kV doc pm an (.ref c) ct) ["marks", "mark"] (spApart K Ms Xs Pme Ppa) := by
  refine fn_of lk hcd scApart (fun vs H Q E h => ?_) (fun A outer s H vs Q E hr h => ?_)
  · obtain ⟨a, ms, mk, rfl, _⟩ := h
    rfl
  · obtain ⟨a, ms, mk, rfl, hA, hml, hmk, hlen, hT, hPm, hPa, q⟩ := h
    refine ⟨_, PSs.nox (pss_cons (ps_setLc (i := 2) (own := [("other", 6)]) (g := (gName 6)) (tt := (tTest (tOp (rNe) (tVar 6) (tVar 1)))) (te := (tCall spUnlike [] E0 (tCons (tVar 1) (tCons (tVar 6) tNil)))) rfl scApart.nd rfl rfl (sw_true rfl rfl rfl (by decide +kernel)) (pi_seq (pv 0)) (blkOk_by (own := [("other", 6)]) (N := ["marks", "mark", "rows", "many", "choices", "places", "other", "one"]) (sc := defScope sApart) (by decide +kernel)) (fun _ _ _ _ _ => (pg_name (i := 6) scApart.nd rfl (.inl rfl))) (fun _ _ _ _ _ => (pts_one (pt_cmpR op_ne (pv 6) (pv 1) (nomark _)))) (fun _ _ _ _ _ => (pe_own C_unlike_places (hr.mono (show 2 ≤ 8 by decide)) (by rfl) (pa_cons (pv 1) (pa_cons (pv 6) pa_nil)))))
      (pss_cons (ps_set (i := 3) scApart.nd rfl (.inl rfl) (GX.pe_maxX (k := 5) (own := [("one", 7)]) (g' := (gName 7)) (tt := tYes) hr scApart.nd (by rfl) m_max TG.bm (pi_seq (pv 0)) (GX.pc_own (Ms := Ms) (Xs := Xs) TG rfl) (GX.gok_by (own := [("one", 7)]) (N := ["marks", "mark", "rows", "many", "choices", "places", "other", "one"]) (sc := defScope sApart) (by decide +kernel)) (fun _ _ _ _ _ r1 gd1 => (pg_name (i := 7) scApart.nd rfl (.inl rfl))) (fun _ _ _ _ _ r1 gd1 => pts_nil) (fun _ _ _ code1 _ r1 gd1 => (pe_callB call_len_str (by rfl) m_len PySem.boot_len (pa_cons (pv 7) pa_nil)))))
      (pss_cons (ps_set (i := 4) scApart.nd rfl (.inl rfl) (pe_lst (pa_cons (pe_lst pa_nil) pa_nil)))
      (pss_cons (ps_while PassesOwn.never (pt_truth (pv 4) (by intro _; rfl))
        (pss_cons (ps_for PassesOwn.never rfl (pi_list (pv 4)) (pg_name (i := 5) scApart.nd rfl (.inl rfl))
          (pss_one (ps_if (pt_val (pe_own C_meets_each hr (by rfl) (pa_cons (pv 5) (pa_cons (pv 2) pa_nil)))) (pss_one (ps_ret (pv 5)))
            pss_nil)))
        (pss_one (ps_set (i := 4) scApart.nd rfl (.inl rfl) (pe_own C_one_place_more (hr.mono (show 1 ≤ 8 by decide)) (by rfl) (pa_cons (pv 4) (pa_cons (pv 3) pa_nil)))))))
      (pss_one (ps_ret (pe_lst pa_nil))))))), ?_⟩
    have lt1 : (txs ms).length = ms.length := List.length_map ..
    have hpos : 0 < ms.length := List.length_pos_of_mem hmk
    refine ⟨_, rfl, a, rfl, iseq_lc hA fun J G wk hG D nD => lc_it wk (fun j H' => Same H H' ∧ ∃ us, H' D = some (.lst us) ∧ us.length = (rowsF (ms.take j) mk).length ∧ ∀ (i : Nat) rs, (rowsF (ms.take j) mk)[i]? = some rs → ∃ l, us[i]? = some (.ref l) ∧ IntsA H' l rs ∧ l ≠ D) ⟨same_upd nD, [], upd_same, rfl, fun i rs e => by rw [List.take_zero] at e; cases e⟩ (fun i H' _ hP => hG H' (NoTab.same hP.1)) (fun i x H' H'' hi hP hy => ?_) (fun H1 hP => ?_)⟩
    · obtain ⟨rfl, hx⟩ := hy
      obtain ⟨sm, us, eD, lu, ku⟩ := hP
      rw [lt1] at hi
      have eo : ms[i]? = some ms[i] := List.getElem?_eq_getElem hi
      have ho := hlen _ (List.getElem_mem hi)
      rw [List.getElem?_map, eo] at hx
      generalize ms[i] = o at eo ho hx
      cases hx
      rw [rows_snoc eo]
      refine ⟨rfl, _, rfl, _, rfl, rfl, _, rfl, ite2 (fun c1 => ?_) (fun c1 => ?_)⟩
      · have ne : o ≠ mk := fun z => by
          rw [z] at c1
          rw [decide_eq_true rfl] at c1
          cases c1
        rw [if_neg ne]
        refine ⟨_, rfl, _, rfl, mk, o, rfl, by have := hlen mk hmk; omega, by omega, fun p H2 np s2 ep => ?_⟩
        have npD : p ≠ D := fun z => by rw [z, eD] at np; cases np
        have lr : (rowsF (ms.take i) mk).length ≤ i := by
          unfold rowsF
          rw [List.length_map]
          exact Nat.le_trans (List.length_filter_le ..) (by rw [List.length_take]; omega)
        refine ⟨us, s2 _ _ eD, small1000 (by omega), fun b o' e => ?_, us ++ [.ref p], upd_same, by rw [List.length_append, List.length_append, lu]; rfl, fun j rs ej => ?_⟩
        · rw [upd_ne (ne_of_none e nD)]
          exact s2 _ _ (sm b o' e)
        · by_cases c2 : j < us.length
          · rw [List.getElem?_append_left (by omega)] at ej
            obtain ⟨l, f1, f2, f3⟩ := ku j rs ej
            refine ⟨l, by rw [List.getElem?_append_left c2]; exact f1, ?_, f3⟩
            show upd _ _ _ _ = _
            rw [upd_ne f3]
            exact s2 _ _ f2
          · rw [List.getElem?_append_right (by omega)] at ej
            have hz : j - (rowsF (ms.take i) mk).length < 1 := (List.getElem?_eq_some_iff.mp ej).1
            have e0 : j - (rowsF (ms.take i) mk).length = 0 := by omega
            rw [e0] at ej
            cases ej
            refine ⟨p, by rw [List.getElem?_append_right (by omega), show j - us.length = 0 by omega]; rfl, ?_, npD⟩
            show upd _ _ _ _ = _
            rw [upd_ne npD]
            exact ep
      · have eq : o = mk := by
          have c1 : ¬ (!decide (V.str (SX.S o) = V.str (SX.S mk))) = true := c1
          have c2 : decide (V.str (SX.S o) = V.str (SX.S mk)) = true := by simpa using c1
          exact SX.S_inj (V.str.inj (of_decide_eq_true c2))
        rw [if_pos eq, List.append_nil]
        exact ⟨sm, us, eD, lu, ku⟩
    obtain ⟨sm1, us, eD, lu, ku⟩ := hP
    rw [lt1, List.take_length] at lu ku
    have hR : LLA H1 D (rowsF ms mk) := ⟨us, eD, lu, fun i rs e => let ⟨l, f1, f2, _⟩ := ku i rs e; ⟨l, f1, f2⟩⟩
    have n1 : GX.NoTab H H1 := NoTab.same sm1
    have hT1 := hT.same sm1
    -- how long the longest one is
    refine ⟨_, rfl, a, rfl, iseq_gx (hA.noTab n1) fun J G wk hG => ?_⟩
    refine ⟨hT1, hPa, fun H2 c' P' n2 t2 nX eC tG => GX.turns_max wk (fun i => (((ms.getD i []).length : Nat) : Int)) (by rw [lt1]; exact hpos) (fun Hx => GX.NoTab H1 Hx ∧ GX.TQ Ms Xs Hx) ⟨n2, t2⟩ (fun Hx iv => hG Hx iv.1) (fun i x Hx Hx' Kt Kn hi iv hy kt => ?_) (fun H3 m iv hm1 hm2 => ?_)⟩
    · obtain ⟨rfl, hx⟩ := hy
      rw [lt1] at hi
      have eo : ms[i]? = some ms[i] := List.getElem?_eq_getElem hi
      have ho := hlen _ (List.getElem_mem hi)
      have ed : ms.getD i [] = ms[i] := by rw [List.getD_eq_getElem?_getD, eo]; rfl
      rw [List.getElem?_map, eo] at hx
      rw [ed] at kt
      generalize ms[i] = o at ho hx kt
      cases hx
      refine ⟨rfl, _, rfl, _, rfl, by rw [SX.S_len]; exact Nat.le_trans (show o.length ≤ 10 by omega) (by decide), ?_⟩
      rw [SX.S_len]
      exact kt _ iv
    obtain ⟨n3, t3⟩ := iv
    obtain ⟨i0, hi0, rfl⟩ := hm1
    rw [lt1] at hi0 hm2
    have hall : ∀ o ∈ ms, o.length ≤ (ms.getD i0 []).length := fun o ho => by
      obtain ⟨i, hi, rfl⟩ := List.getElem_of_mem ho
      have := hm2 i hi
      rw [List.getD_eq_getElem?_getD, List.getElem?_eq_getElem hi] at this
      exact Int.ofNat_le.mp this
    have hn10 : (ms.getD i0 []).length ≤ 10 := by
      rw [List.getD_eq_getElem?_getD, List.getElem?_eq_getElem hi0]
      exact hlen _ (List.getElem_mem hi0)
    generalize (ms.getD i0 []).length = n at hall hn10
    -- the choices of no place
    refine ⟨Nat.zero_le _, fun e nE => ⟨Nat.le_of_ble_eq_true rfl, fun ch nch => ?_⟩⟩
    have sE := same_upd (o := .lst []) nE
    have sC := same_upd (o := .lst [.ref e]) nch
    have sEC := sE.trans sC
    have n4 : GX.NoTab H (upd (upd H3 e (.lst [])) ch (.lst [.ref e])) := n1.trans (n3.trans (NoTab.same sEC))
    have n14 : GX.NoTab H1 (upd (upd H3 e (.lst [])) ch (.lst [.ref e])) := n3.trans (NoTab.same sEC)
    have t4 := t3.same sEC
    have free3 : ∀ p, H3 p = none → H p = none := fun p hp => (n1.trans n3).free hp
    have w0 : ApW Ms Xs H H1 ms mk n 0 ch (upd (upd H3 e (.lst [])) ch (.lst [.ref e])) := by
      have ene : e ≠ ch := fun z => by rw [z, upd_same] at nch; cases nch
      refine ⟨n14, t4, ⟨[.ref e], upd_same, rfl, fun i rs ei => ?_⟩, fun us eu i l el => ?_, fun j hj => absurd hj (Nat.not_lt_zero _)⟩
      · have hi : i < 1 := (List.getElem?_eq_some_iff.mp ei).1
        have : i = 0 := by omega
        subst this
        cases ei
        refine ⟨e, rfl, ?_⟩
        show upd _ _ _ _ = _
        rw [upd_ne ene, upd_same]
        rfl
      · rw [upd_same] at eu
        cases eu
        have hi : i < 1 := (List.getElem?_eq_some_iff.mp el).1
        have : i = 0 := by omega
        subst this
        cases el
        exact free3 _ nE
    generalize upd (upd H3 e (.lst [])) ch (.lst [.ref e]) = H4 at w0
    refine ⟨fun m σ Hx => ∃ (k : Nat) (c0 : Addr) (y5 : Option V), m = n + 1 - k ∧ k ≤ n + 1 ∧ σ = [some (.ref a), some (.str (SX.S mk)), some (.ref D), some (.int (n : Int)), some (.ref c0), y5, none, none] ∧ ApW Ms Xs H H1 ms mk n k c0 Hx, ⟨_, 0, ch, _, rfl, Nat.zero_le _, rfl, w0⟩, ?_⟩
    rintro m σ Hx ⟨k, c0, y5, rfl, hk, rfl, W⟩
    obtain ⟨uc, ec, lc, kc⟩ := id W.ll
    refine ⟨_, rfl, !uc.isEmpty, .inl ⟨_, SqL.of ec, rfl⟩, ?_⟩
    by_cases he : combF n k = []
    · have hk1 : n < k := by
        by_cases z : k ≤ n
        · exact absurd he (comb_ne z)
        · omega
      exact absurd (hits_all hall hmk) (W.no n hk1 _ (comb_mem.mpr (span_full n)))
    · have hkn := comb_end he
      have hue : (!uc.isEmpty) = true := by
        cases uc with
        | nil => exact absurd (List.length_eq_zero_iff.mp lc.symm) he
        | cons => rfl
      rw [hue]
      refine ⟨fun σ' H' => ∃ (c1 : Addr) (y5 : Option V), σ' = [some (.ref a), some (.str (SX.S mk)), some (.ref D), some (.int (n : Int)), some (.ref c1), y5, none, none] ∧ ApW Ms Xs H H1 ms mk n (k + 1) c1 H', fun σ' H' ⟨c1, y, e1, e2⟩ => ⟨n + 1 - (k + 1), by omega, k + 1, c1, y, rfl, by omega, e1, e2⟩, ?_⟩
      refine ⟨_, rfl, c0, rfl, ⟨uc, SqL.of ec⟩, for_list (xs := uc) (fun i σ Hy => ∃ y5 : Option V, σ = [some (.ref a), some (.str (SX.S mk)), some (.ref D), some (.int (n : Int)), some (.ref c0), y5, none, none] ∧ GX.NoTab Hx Hy ∧ GX.TQ Ms Xs Hy ∧ ∀ j, j < i → ∀ cc, (combF n k)[j]? = some cc → ¬ Hits ms mk cc) ⟨_, rfl, GX.NoTab.refl _, W.tq, fun j h => absurd h (Nat.not_lt_zero _)⟩ (fun i σ Hy _ hP => ?_) (fun i x σ Hy hx hP => ?_) (fun σ Hy hP => ?_)⟩
      · obtain ⟨y, rfl, ny, _⟩ := hP
        exact SqL.of (ny.lst ec)
      · obtain ⟨y, rfl, ny, ty, no⟩ := hP
        have hi : i < (combF n k).length := by rw [← lc]; exact (List.getElem?_eq_some_iff.mp hx).1
        have ecc : (combF n k)[i]? = some (combF n k)[i] := List.getElem?_eq_getElem hi
        obtain ⟨l, e1, e2⟩ := kc i _ ecc
        rw [hx] at e1
        cases e1
        have nl := W.ne uc ec i l hx
        have ecut : combF n k = (combF n k).take i ++ (combF n k)[i] :: (combF n k).drop (i + 1) := by
          rw [← List.drop_eq_getElem_cons hi, List.take_append_drop]
        generalize (combF n k)[i] = cc at ecc e2 ecut
        have ny1 := W.nt.trans ny
        refine ⟨_, rfl, _, rfl, l, D, cc, rowsF ms mk, rfl, ny.lst e2, hR.noTab ny1, ty, hPm, fun H5 n5 t5 => ⟨_, rfl, ite2 (fun c1 => ?_) (fun c1 => ?_)⟩⟩
        · have hh := meets_hits.mp c1
          refine ⟨_, rfl, q l H5 cc nl (n1.trans (ny1.trans n5)) t5 (n5.lst (ny.lst e2)) (Best.of hn10 hall (hall mk hmk) ecut hh (fun c hc => ?_) W.no)⟩
          obtain ⟨j, hj, rfl⟩ := List.getElem_of_mem hc
          rw [List.length_take] at hj
          refine no j (by omega) _ ?_
          rw [List.getElem_take, List.getElem?_eq_getElem (by omega)]
        · refine ⟨_, rfl, ny.trans n5, t5, fun j hj c2 e3 => ?_⟩
          by_cases z : j = i
          · subst z
            rw [ecc] at e3
            cases e3
            exact fun hh => c1 (meets_hits.mpr hh)
          · exact no j (by omega) c2 e3
      · obtain ⟨y, rfl, ny, ty, no⟩ := hP
        have e : moreF n (combF n k) = combF n (k + 1) := rfl
        refine ⟨_, rfl, _, rfl, c0, n, combF n k, rfl, W.ll.noTab ny, by omega, comb_short n (by omega) k (by omega), by rw [e]; exact comb_short n (by omega) (k + 1) (by omega), fun c hc => (comb_mem.mp hc).1, fun p H6 np s6 hL hNe => ?_⟩
        refine ⟨p, _, rfl, W.nt.trans (ny.trans (NoTab.same s6)), ty.same s6, hL, fun us eu i l el => (n1.trans (W.nt.trans ny)).free (hNe us eu i l el), fun j hj c hc => ?_⟩
        by_cases z : j = k
        · subst z
          obtain ⟨i, hi, rfl⟩ := List.getElem_of_mem hc
          exact no i (by rw [lc]; exact hi) _ (List.getElem?_eq_getElem hi)
        · exact W.no j (by omega) c hc
end

/-! ### bits; whole numbers and lists of them by order -/
section
variable {X : Cx}
theorem op_andNN : OpR X (binaryOp .BitAnd) (fun x y H Q => ∃ n m : Nat, x = .int (n : Int) ∧ y = .int (m : Int) ∧ Q (.int ((n &&& m : Nat) : Int)) H) := by
  intro pins s σ H x y v u Q I rx ry h
  obtain ⟨n, m, rfl, rfl, q⟩ := h
  have e : Builtin.bitAnd (n : Int) (m : Int) = ((n &&& m : Nat) : Int) := by
    rw [bitAnd_pp (Int.natCast_nonneg n) (Int.natCast_nonneg m), Int.toNat_natCast, Int.toNat_natCast]
  rw [← e] at q
  exact op_and pins s σ H _ _ v u Q I rx ry ⟨_, _, rfl, rfl, q⟩
theorem op_shrNN : OpR X (binaryOp .RShift) (fun x y H Q => ∃ n k : Nat, x = .int (n : Int) ∧ y = .int (k : Int) ∧ Q (.int ((n >>> k : Nat) : Int)) H) := by
  intro pins s σ H x y v u Q I rx ry h
  obtain ⟨n, k, rfl, rfl, q⟩ := h
  refine op_shrN pins s σ H _ _ v u Q I rx ry ⟨_, k, rfl, rfl, ?_⟩
  rw [Nat.shiftRight_eq_div_pow] at q
  have e : ((n / 2 ^ k : Nat) : Int) = (n : Int) / 2 ^ k := by
    rw [Int.natCast_ediv, PySem.W.kbt_cast]
  rw [← e]
  exact q
def rLtD (K : PySem.W.Frag) : R2 := fun x y H Q => ∃ d e, Dp K H x d ∧ Dp K H y e ∧ PySem.W.alike d e = true ∧ d ≠ .none ∧ min d.depth e.depth ≤ 60 ∧ Q (.bl (PySem.W.dataLt d e)) H
theorem op_ltD (hu : X.A.units + 64 < cLine) : OpR X (compareOp .Lt) (rLtD X.K) := by
  intro pins s σ H x y v u Q I rx ry h
  obtain ⟨d, e, hd, he, ha, hn, hm, q⟩ := h
  obtain ⟨as, r1⟩ := Dp.reads I d x v hd rx
  obtain ⟨bs, r2⟩ := Dp.reads I e y u he ry
  exact PySem.W.lt_data r1 r2 ha hn (by omega) ⟨.bl _, H, I, rfl, q⟩
end
theorem eqvAll_ints : ∀ {xs ys : List Int}, PyData.eqvAll (xs.map .int) (ys.map .int) = true → xs = ys
  | [], [], _ => rfl
  | [], _ :: _, h => by simp [PyData.eqvAll] at h
  | _ :: _, [], h => by simp [PyData.eqvAll] at h
  | x :: xs, y :: ys, h => by
    simp only [List.map_cons, PyData.eqvAll, PyData.eqv, Bool.and_eq_true, beq_iff_eq] at h
    rw [h.1, eqvAll_ints h.2]
def rowD (xs : List Int) : PyData := .tuple [.int (xs.length : Int), .list (xs.map .int)]
theorem rowD_alike (xs ys : List Int) : PySem.W.alike (rowD xs) (rowD ys) = true := by
  simp [rowD, PySem.W.alike, PySem.W.alikeAll, PySem.W.alike_ints]
theorem rowD_lt (xs ys : List Int) : PySem.W.dataLt (rowD xs) (rowD ys) = decide (xs.length < ys.length ∨ (xs.length = ys.length ∧ xs < ys)) := by
  unfold rowD
  have ha : PySem.W.alike (.list (xs.map .int)) (.list (ys.map .int)) = true := by simp [PySem.W.alike, PySem.W.alike_ints]
  rw [PySem.W.dataLt_pair (by simp [PySem.W.alike]) ha, PySem.W.dataLt_int, PySem.W.dataLt_list]
  have e := PySem.W.dataLt_ints xs ys
  unfold PySem.W.rowLt at e
  rw [e]
  by_cases h : xs.length = ys.length
  · have e1 : PyData.eqv (.int (xs.length : Int)) (.int (ys.length : Int)) = true := by rw [h]; simp [PyData.eqv]
    rw [if_pos e1]
    by_cases h2 : PyData.eqv (.list (xs.map .int)) (.list (ys.map .int)) = true
    · rw [if_pos h2]
      have : xs = ys := eqvAll_ints (by simpa [PyData.eqv] using h2)
      rw [this]
      exact (decide_eq_false (by rintro (z | ⟨_, z⟩); · omega
                                 · exact List.lt_irrefl _ z)).symm
    · rw [if_neg h2]
      exact decide_eq_decide.mpr ⟨fun z => .inr ⟨h, z⟩, fun z => z.elim (fun z => by omega) (fun z => z.2)⟩
  · have e1 : ¬ PyData.eqv (.int (xs.length : Int)) (.int (ys.length : Int)) = true := by simp only [PyData.eqv, beq_iff_eq]; omega
    rw [if_neg e1]
    exact decide_eq_decide.mpr ⟨fun z => .inl (by omega), fun z => z.elim (fun z => by omega) (fun z => absurd z.1 h)⟩
theorem rowD_depth (xs : List Int) : (rowD xs).depth ≤ 60 := by
  simp [rowD, PyData.depth, PyData.depthAll, depth_ints]
theorem dp_rowD {K : PySem.W.Frag} {H : Hp} {t l : Addr} {xs : List Int} (e : H t = some (.tup [.int (xs.length : Int), .ref l])) (e2 : IntsA H l xs) : Dp K H (.ref t) (rowD xs) :=
  .tup (.inl (.inl e)) (.cons (.int _) (.cons (.lst (SqL.of e2) (dp_ints xs)) .nil))
/-! ### bits of a number -/
def bitsN (f : Nat → Bool) : Nat → Nat
  | 0 => 0
  | k + 1 => bitsN f k + 2 ^ k * (f k).toNat
theorem bitsN_lt (f : Nat → Bool) : ∀ k, bitsN f k < 2 ^ k
  | 0 => Nat.one_pos
  | k + 1 => by
    have := bitsN_lt f k
    rw [bitsN, Nat.pow_succ]
    cases f k <;> simp <;> omega
theorem bitsN_bit (f : Nat → Bool) : ∀ k i, (bitsN f k).testBit i = (decide (i < k) && f i)
  | 0, i => by simp [bitsN]
  | k + 1, i => by
    rw [bitsN, Nat.add_comm, Nat.testBit_two_pow_mul_add _ (bitsN_lt f k), bitsN_bit f k i]
    by_cases h : i < k
    · rw [if_pos h]; simp [h, show i < k + 1 by omega]
    · rw [if_neg h]
      by_cases h2 : i = k
      · subst h2; cases f i <;> simp
      · have : ¬ i < k + 1 := by omega
        have h3 : i - k ≠ 0 := by omega
        have z : (1 : Nat).testBit (i - k) = false := Nat.testBit_lt_two_pow (Nat.one_lt_two_pow h3)
        cases f k <;> simp [this, z]
theorem bit_and {n m k : Nat} (hm : m < 2 ^ k) : 0 < n &&& m ↔ ∃ p, p < k ∧ n.testBit p = true ∧ m.testBit p = true := by
  constructor
  · intro h
    by_cases c : ∃ p, p < k ∧ n.testBit p = true ∧ m.testBit p = true
    · exact c
    · have : n &&& m = 0 := by
        refine Nat.eq_of_testBit_eq fun i => ?_
        rw [Nat.zero_testBit, Nat.testBit_and]
        by_cases ci : i < k
        · cases e1 : n.testBit i with
          | false => rfl
          | true =>
            cases e2 : m.testBit i with
            | false => rfl
            | true => exact absurd ⟨i, ci, e1, e2⟩ c
        · rw [Nat.testBit_lt_two_pow (Nat.lt_of_lt_of_le hm (Nat.pow_le_pow_right (by decide) (by omega))), Bool.and_false]
      omega
  · rintro ⟨p, _, h1, h2⟩
    refine Nat.pos_of_ne_zero fun z => ?_
    have : (n &&& m).testBit p = true := by rw [Nat.testBit_and, h1, h2]; rfl
    rw [z, Nat.zero_testBit] at this
    cases this
theorem bit_one (n p : Nat) : ((n >>> p &&& 1 : Nat) : Int) = if n.testBit p then 1 else 0 := by
  have e : n.testBit p = (1 &&& (n >>> p) != 0) := rfl
  have e2 : (n >>> p) &&& 1 = (n >>> p) % 2 := Nat.and_two_pow_sub_one_eq_mod (n >>> p) 1
  rw [e, Nat.and_comm 1, e2]
  have : (n >>> p) % 2 < 2 := Nat.mod_lt _ (by decide)
  generalize (n >>> p) % 2 = b at this
  have hb : b = 0 ∨ b = 1 := by omega
  rcases hb with rfl | rfl <;> rfl

/-! ### a text's signs as a list; a range as a value -/
theorem vals_of : ∀ {xs : List V} {us : List Value}, xs.length = us.length → (∀ (j : Nat) x u, xs[j]? = some x → us[j]? = some u → RelV x u) → Vals xs us
  | [], [], _, _ => .nil
  | [], _ :: _, h, _ => nomatch h
  | _ :: _, [], h, _ => nomatch h
  | x :: xs, u :: us, h, r => .cons (r 0 x u rfl rfl) (vals_of (Nat.succ.inj h) fun j y w e1 e2 => r (j + 1) y w e1 e2)
theorem cr_range1 {X : Cx} : CallR X (.type "range") (fun vs H Q => ∃ j, vs = [V.int j] ∧ ∀ p, H p = none → Q (.ref p) (upd H p (.rng 0 j))) := fun pins s σ H vs us Q I r h => by
  obtain ⟨j, rfl, q⟩ := h
  obtain ⟨u, rfl, t, rfl⟩ := vals1 r
  refine call_range_1 ⟨.ref s.heap.objs.size, upd H s.heap.objs.size (.rng 0 j), I.laid (t' := s.toks + 1 + 1) (fun b o e => Heap.get?_push_of_some _ e) (Nat.le_refl _) ?_, rfl, q _ (I.hok.fresh (Nat.le_refl _))⟩
  exact ⟨s.toks, t, s.toks + 1, Heap.get?_push_size _ rfl⟩
theorem cr_listStr {X : Cx} (hc : X.calm = true) : CallR X (.type "list") (fun vs H Q => ∃ l : List Nat, vs = [V.str (SX.S l)] ∧ l.length ≤ sizeLine ∧ ∀ p, H p = none → Q (.ref p) (upd H p (.lst (txs (l.map fun c => [c]))))) := fun pins s σ H vs us Q I r h => by
  obtain ⟨l, rfl, hz, q⟩ := h
  obtain ⟨u, rfl, t, rfl⟩ := vals1 r
  have hs : (SX.S l).cps.size = l.length := SX.S_len l
  refine call_list_str (I.ok.hd hc) (SX.S l) t (fun h' tk acc c' k e it => ?_) (by rw [hs]; exact hz)
  refine ⟨.ref s.heap.objs.size, _, I.laid (t' := tk) k (Nat.le_refl _) (show ObjOk X.prog X.w _ h' _ (.lst (txs (l.map fun c => [c]))) from ⟨by rw [List.length_map, List.length_map]; exact hz, acc.toList, c', vals_of ?_ fun j x u e1 e2 => ?_, by simpa using e⟩), rfl, q _ (I.hok.fresh (Nat.le_refl _))⟩
  · have h1 : acc.toList.length = l.length := it.1.trans hs
    rw [List.length_map, List.length_map, h1]
  · obtain ⟨c, u', hc, rfl⟩ := it.2 j u (by simpa using e2)
    rw [List.getElem?_map, List.getElem?_map] at e1
    have hc2 : l[j]? = some c := by
      have : (SX.S l).cps.toList[j]? = some c := by rw [Array.getElem?_toList]; exact hc
      rwa [S_cps] at this
    rw [hc2] at e1
    cases e1
    exact ⟨u', rfl⟩
abbrev sgnS : Str := "abcdefghijklmnopqrstuvwxyz0123456789"
theorem sg36_len : sg36.length = 36 := by decide +kernel
theorem sg36_nd : sg36.Nodup := by decide +kernel
theorem occ_sg {c : Nat} (h : c ∈ sg36) : ∃ i rest, Builtin.Str.occurrences sgnS ⟨#[c]⟩ 0 sgnS.length 1 = i :: rest ∧ sg36[i]? = some c := by
  have e0 : fromIndex sgnS.length 0 = 0 := rfl
  have eg : ∀ v, sgnS.cps.getD v 0 = (sg36[v]?).getD 0 := fun v => by
    show sgnS.cps.getD v 0 = (sgnS.cps.toList[v]?).getD 0
    rw [Array.getElem?_toList, Array.getD_eq_getD_getElem?]
  have el : sgnS.length = 36 := by decide +kernel
  have eo : Txt.find3 sgnS ⟨#[c]⟩ 0 = match Builtin.Str.occurrences sgnS ⟨#[c]⟩ (fromIndex sgnS.length 0) sgnS.length 1 with | k :: _ => (k : Int) | [] => -1 := rfl
  rw [e0] at eo
  rcases StrLaws.find3_spec sgnS c 0 with ⟨_, hn⟩ | ⟨k, hf, _, hlt, hc, _⟩
  · obtain ⟨j, hj, e⟩ := List.getElem_of_mem h
    refine absurd ?_ (hn j (Nat.zero_le _) (by rw [el, ← sg36_len]; exact hj))
    rw [eg, List.getElem?_eq_getElem hj, e]
    rfl
  · rw [hf] at eo
    cases ho : Builtin.Str.occurrences sgnS ⟨#[c]⟩ 0 sgnS.length 1 with
    | nil => rw [ho] at eo; exact absurd eo (by show ¬ ((k : Int) = -1); omega)
    | cons i rest =>
      rw [ho] at eo
      have ei : k = i := by have : (k : Int) = (i : Int) := eo; omega
      subst ei
      refine ⟨k, rest, rfl, ?_⟩
      have lt : k < sg36.length := by rw [sg36_len, ← el]; exact hlt
      rw [eg, List.getElem?_eq_getElem lt] at hc
      rw [List.getElem?_eq_getElem lt]
      exact congrArg some hc
abbrev rSIx : V → List V → Hp → VK → Prop := fun x xs H Q => ∃ a b i rest, x = .str a ∧ xs = [.str b] ∧ Builtin.Str.occurrences a b 0 a.length 1 = i :: rest ∧ Q (.int (i : Nat)) H

/-! ### other marks, made of the one -/
def spOthers : Sp := fun vs H Q _ => ∃ (d c : Addr) (t : Int) (mk : List Nat), vs = [.ref d, .str (SX.S mk)] ∧ StAt H d c t ∧ t < 2 ^ 58 ∧ 1 ≤ mk.length ∧ mk.length ≤ 10 ∧ okS mk ∧
  ∀ p H' os t', H p = none → H' p = some (.lst (txs os)) → os.length ≤ 23 → (∀ o ∈ os, o ≠ mk ∧ o.length ≤ 10 ∧ okS o) → t ≤ t' → t' ≤ t + 1000 → StAt H' d c t' → Kp d c H H' → Q (.ref p) H'
abbrev sOthers : Stmt := topS 11
theorem scOthers : FnScope ["_law_state", "_law_mark_here", "_law_found", "_law_k", "_law_other", "_law_many", "_law_turn", "_law_at", "_law_text"] ["_law_state", "_law_mark_here"] (defScope sOthers) := ⟨rfl, rfl, rfl, by decide +kernel, rfl, by decide +kernel, by decide +kernel⟩
theorem ones_flat (l : List Nat) : (l.map fun c => [c]).flatten = l := by
  induction l with
  | nil => rfl
  | cons a r ih => rw [List.map_cons, List.flatten_cons, ih]; rfl
section
variable {K : PySem.W.Frag} {mg : Str → Option Value} {P : Program} {w : World} {base : Heap}
theorem ok_Others {f : Addr} {fd : FuncData} (F : Fun K "_law_others" "_law_others" sOthers f fd) (C__law_take : Cal P w K mg base 1 "_law_take" ["_law_state", "_law_many"] spTake) (m_range : mg "range" = none) (m_list : mg "list" = none) (m_len : mg "len" = none) : FnOk P w K mg base CX0 2 f fd ["_law_state", "_law_mark_here"] spOthers := by
  refine F.ok scOthers (fun vs H Q E h => ?_) (fun cdv A outer s H vs Q E hr h => ?_)
  · obtain ⟨d, c, t, mk, rfl, _⟩ := h
    rfl
  · obtain ⟨d, c, t, mk, rfl, hS, ht, hk1, hk2, hok, q⟩ := h
    refine ⟨_, pss_cons (ps_set (i := 2) scOthers.nd rfl (.inl rfl) (pe_lst pa_nil))
      (pss_cons (ps_for PassesOwn.never rfl (pi_range1 rfl m_range (pa_cons pe_int pa_nil)) (pg_name (i := 3) scOthers.nd rfl (.inl rfl))
        (pss_cons (ps_par rfl scOthers.nd (i := 4) (j := 5) rfl rfl (by decide) rfl rfl (pa_cons (pe_callTy (cr_listStr rfl) (by rfl) m_list (by decide +kernel) (pa_cons (pv 1) pa_nil)) (pa_cons (pe_op op_add pe_int (pe_own C__law_take hr (by rfl) (pa_cons (pv 0) (pa_cons pe_int pa_nil)))) pa_nil)) (by rfl))
        (pss_cons (ps_for PassesOwn.never rfl (pi_range1 rfl m_range (pa_cons (pv 5) pa_nil)) (pg_name (i := 6) scOthers.nd rfl (.inl rfl))
          (pss_cons (ps_set (i := 7) scOthers.nd rfl (.inl rfl) (pe_ix ix_list (pe_lst (pa_cons (pe_op op_mod (pv 3) (pe_callB call_len_str (by rfl) m_len PySem.boot_len (pa_cons (pv 1) pa_nil))) (pa_cons (pe_own C__law_take hr (by rfl) (pa_cons (pv 0) (pa_cons (pe_callB call_len_str (by rfl) m_len PySem.boot_len (pa_cons (pv 1) pa_nil)) pa_nil))) pa_nil))) (pe_own C__law_take hr (by rfl) (pa_cons (pv 0) (pa_cons pe_int pa_nil))) (fun _ _ => rfl)))
          (pss_one (ps_asg (pe_ix ix_str pe_str (pe_own C__law_take hr (by rfl) (pa_cons (pv 0) (pa_cons pe_int pa_nil))) (fun _ _ => rfl)) (pg_sub (pv 4) (pv 7) set_list)))))
        (Evl.pss_cut (ps_if (pt_cmpR op_eq (pe_own C__law_take hr (by rfl) (pa_cons (pv 0) (pa_cons pe_int pa_nil))) pe_int (nomark _)) (pss_one (ps_set (i := 4) scOthers.nd rfl (.inl rfl) (pe_slice sl_list (pv 4) po_none (po_some (pe_op op_add pe_int (pe_own C__law_take hr (by rfl) (pa_cons (pv 0) (pa_cons pe_int pa_nil))))))))
          pss_nil)
        (pss_cons (ps_set (i := 8) scOthers.nd rfl (.inl rfl) (pe_join pe_str (pv 4)))
        (pss_one (ps_if (PW.pt (pw_and (pt_cmpR op_ne (pv 8) (pv 1) (nomark _)) (pw_and (pt_cmpR op_notIn_seq (pv 8) (pv 2) (by rfl)) (pw_and1 (pt_cmpR op_lt (pe_callB call_len_seq (by rfl) m_len PySem.boot_len (pa_cons (pv 2) pa_nil)) pe_int (nomark _)))))) (pss_one (ps_expr (pe_bm PySem.F.plainAttrs_list PySem.F.slot_list_append PySem.F.type_list_append mt_append (pv 2) (pa_cons (pv 8) pa_nil))))
          pss_nil)))))))
      (pss_one (ps_ret (pv 2)))), ?_⟩
    refine ⟨Nat.zero_le _, fun p np => ?_⟩
    have sp := same_upd (o := .lst []) np
    have offp := hS.off np
    have hz : (SX.S mk).length ≤ sizeLine := S_le (by omega)
    refine ⟨_, rfl, by decide, by decide, for_range (n := 46) (fun i σ Hx => ∃ (os : List (List Nat)) (t' : Int) (y3 y4 y5 y6 y7 y8 : Option V), σ = [some (.ref d), some (.str (SX.S mk)), some (.ref p), y3, y4, y5, y6, y7, y8] ∧ Hx p = some (.lst (txs os)) ∧ os.length ≤ 23 ∧ (∀ o ∈ os, o ≠ mk ∧ o.length ≤ 10 ∧ okS o) ∧ t ≤ t' ∧ t' ≤ t + 20 * (i : Int) ∧ StAt Hx d c t' ∧ Kp d c H Hx) ⟨[], t, _, _, _, _, _, _, rfl, upd_same, Nat.zero_le _, (fun _ h => nomatch h), by omega, by omega, hS.same sp, fun b o _ _ e => sp b o e⟩ (fun i σ Hx hi hP => ?_) (fun σ Hx hP => ?_)⟩
    · obtain ⟨os, t1, y3, y4, y5, y6, y7, y8, rfl, ep, hl, hall, u0, u1, hSx, kx⟩ := hP
      have hi' : (i : Int) < 46 := by omega
      refine ⟨_, rfl, mk, rfl, Nat.le_trans (show mk.length ≤ 10 by omega) (by decide), fun o no => ?_⟩
      have so := same_upd (o := .lst (txs (mk.map fun c => [c]))) no
      have offo := hSx.off no
      have eo : (upd Hx o (.lst (txs (mk.map fun c => [c])))) o = some (.lst (txs (mk.map fun c => [c]))) := upd_same
      have hS1 := hSx.same so
      have ep1 := so _ _ ep
      have k1 : Kp d c H (upd Hx o (.lst (txs (mk.map fun c => [c])))) := fun b u b1 b2 e => so _ _ (kx b u b1 b2 e)
      have nop : o ≠ p := fun z => by rw [z, ep] at no; cases no
      generalize upd Hx o (.lst (txs (mk.map fun c => [c]))) = H1 at eo hS1 ep1 k1
      refine ⟨_, rfl, d, c, t1, 3, rfl, hS1, by omega, by decide, by decide, fun r1 H2 r10 r11 hS2 k2 => ⟨_, _, rfl, rfl, ?_⟩⟩
      obtain ⟨n, en⟩ := Int.eq_ofNat_of_zero_le (show 0 ≤ 1 + r1 by omega)
      have hn3 : n ≤ 3 := by omega
      have offo1 : o ≠ d ∧ o ≠ c := offo
      have ep2 := k2 _ _ offp.1 offp.2 ep1
      have eo2 := k2 _ _ offo1.1 offo1.2 eo
      have kx2 := k1.trans k2
      refine ⟨_, _, rfl, _, rfl, _, rfl, by omega, by omega, for_range (n := (1 + r1).toNat) (fun j σ Hy => ∃ (cs : List Nat) (t2 : Int) (y6 y7 : Option V), σ = [some (.ref d), some (.str (SX.S mk)), some (.ref p), some (.int (0 + (i : Int))), some (.ref o), some (.int (1 + r1)), y6, y7, y8] ∧ Hy o = some (.lst (txs (cs.map fun c => [c]))) ∧ cs.length = mk.length ∧ okS cs ∧ Hy p = some (.lst (txs os)) ∧ t1 + 1 ≤ t2 ∧ t2 ≤ t1 + 1 + 3 * (j : Int) ∧ StAt Hy d c t2 ∧ Kp d c H Hy) ⟨mk, t1 + 1, _, _, rfl, eo2, rfl, hok, ep2, by omega, by omega, hS2, kx2⟩ (fun j σ Hy hj hP => ?_) (fun σ Hy hP => ?_)⟩
      · obtain ⟨cs, t2, y6, y7, rfl, eoy, lcs, ocs, epy, v0, v1, hSy, ky⟩ := hP
        have hj' : (j : Int) < 3 := by omega
        refine ⟨_, rfl, _, rfl, _, rfl, hz, _, _, rfl, rfl, ?_, ?_⟩
        · rw [SX.S_len]; omega
        refine ⟨_, rfl, _, rfl, _, rfl, hz, d, c, t2, _, rfl, hSy, by omega, ?_, ?_, fun r2 H3 r20 r21 hS3 k3 => ?_⟩
        · rw [SX.S_len]; omega
        · rw [SX.S_len]; omega
        rw [SX.S_len] at r21
        refine ⟨(by show 2 ≤ sizeLine; decide), fun L nL => ?_⟩
        have sL := same_upd (o := .lst [.int ((0 + (i : Int)) % ((SX.S mk).length : Int)), .int r2]) nL
        have offL := hS3.off nL
        have hS3' := hS3.same sL
        have eo3 := sL _ _ (k3 _ _ offo1.1 offo1.2 eoy)
        have ep3 := sL _ _ (k3 _ _ offp.1 offp.2 epy)
        have ky3 : Kp d c H (upd H3 L (.lst [.int ((0 + (i : Int)) % ((SX.S mk).length : Int)), .int r2])) := fun b u b1 b2 e => sL _ _ ((ky.trans k3) b u b1 b2 e)
        have eL : upd H3 L (.lst [.int ((0 + (i : Int)) % ((SX.S mk).length : Int)), .int r2]) L = some (.lst [.int ((0 + (i : Int)) % ((SX.S mk).length : Int)), .int r2]) := upd_same
        generalize upd H3 L (.lst [.int ((0 + (i : Int)) % ((SX.S mk).length : Int)), .int r2]) = H4 at hS3' eo3 ep3 ky3 eL
        refine ⟨_, rfl, d, c, t2 + 1, 2, rfl, hS3', by omega, by decide, by decide, fun r4 H5 r40 r41 hS5 k5 => ?_⟩
        obtain ⟨v, ev, hv⟩ := pick_at (xs := [.int ((0 + (i : Int)) % ((SX.S mk).length : Int)), .int r2]) (n := 2) rfl r40 r41
        rw [SX.S_len] at hv
        have hv' : ∃ n : Nat, v = .int (n : Int) ∧ n < mk.length := by
          simp only [List.mem_cons, List.not_mem_nil, or_false] at hv
          rcases hv with rfl | rfl
          · have h1 := Int.emod_nonneg (0 + (i : Int)) (show (mk.length : Int) ≠ 0 by omega)
            have h2 := Int.emod_lt_of_pos (0 + (i : Int)) (show (0 : Int) < mk.length by omega)
            exact ⟨((0 + (i : Int)) % (mk.length : Int)).toNat, by rw [Int.toNat_of_nonneg h1], by omega⟩
          · exact ⟨r2.toNat, by rw [Int.toNat_of_nonneg r20], by omega⟩
        obtain ⟨n, rfl, hn⟩ := hv'
        refine ⟨L, [.int ((0 + (i : Int)) % ((SX.S mk).length : Int)), .int r2], r4, _, rfl, rfl, SqL.of (k5 _ _ offL.1 offL.2 eL), ev, ?_⟩
        refine ⟨_, rfl, d, c, t2 + 1 + 1, 3, rfl, hS5, by omega, by decide, by decide, fun r5 H6 r50 r51 hS6 k6 => ?_⟩
        obtain ⟨ch, hch, hc36⟩ := sgS_at (z := "ab1") (n := 3) (by decide +kernel) (okS_of (by decide +kernel)) r50 (by omega)
        have eo6 := k6 _ _ offo1.1 offo1.2 (k5 _ _ offo1.1 offo1.2 eo3)
        have ep6 := k6 _ _ offp.1 offp.2 (k5 _ _ offp.1 offp.2 ep3)
        have ky6 := (ky3.trans k5).trans k6
        refine ⟨_, r5, ch, rfl, rfl, (by decide), hch, _, rfl, _, rfl, o, _, _, n, rfl, rfl, eo6, ?_, ?_⟩
        · rw [List.length_map, List.length_map]
          exact ixN_of (by omega)
        · refine ⟨cs.set n ch, t2 + 1 + 1 + 1, _, _, rfl, ?_, by rw [List.length_set]; exact lcs, fun z hz => ?_, ?_, by omega, by omega, hS6.upd offo1.1 offo1.2, fun b u b1 b2 e => ?_⟩
          · rw [upd_same]
            simp [txs, List.map_set]
          · rcases List.mem_or_eq_of_mem_set hz with y | y
            · exact ocs z y
            · rw [y]; exact hc36
          · rw [upd_ne (Ne.symm nop)]
            exact ep6
          · have nb : b ≠ o := fun z => by
              have := kx b u b1 b2 e
              rw [z, no] at this
              cases this
            rw [upd_ne nb]
            exact ky6 b u b1 b2 e
      · obtain ⟨cs, t2, y6, y7, rfl, eoy, lcs, ocs, epy, v0, v1, hSy, ky⟩ := hP
        have hn9 : ((1 + r1).toNat : Int) ≤ 3 := by omega
        refine ⟨fun σ' H' => ∃ (o2 : Addr) (cs2 : List Nat) (t3 : Int), σ' = [some (.ref d), some (.str (SX.S mk)), some (.ref p), some (.int (0 + (i : Int))), some (.ref o2), some (.int (1 + r1)), y6, y7, y8] ∧ H' o2 = some (.lst (txs (cs2.map fun c => [c]))) ∧ cs2.length ≤ 10 ∧ okS cs2 ∧ H' p = some (.lst (txs os)) ∧ t2 ≤ t3 ∧ t3 ≤ t2 + 2 ∧ StAt H' d c t3 ∧ Kp d c H H', ?_, ?_⟩
        · refine ⟨_, rfl, d, c, t2, 8, rfl, hSy, by omega, by decide, by decide, fun r5 H5 r50 r51 hS5 k5 => ⟨rfl, _, rfl, ite2 (fun c1 => ?_) (fun c1 => ?_)⟩⟩
          · have eo5 := k5 _ _ offo1.1 offo1.2 eoy
            have ep5 := k5 _ _ offp.1 offp.2 epy
            refine ⟨_, rfl, _, rfl, d, c, t2 + 1, 7, rfl, hS5, by omega, by decide, by decide, fun r6 H6 r60 r61 hS6 k6 => ?_⟩
            have eo6 := k6 _ _ offo1.1 offo1.2 eo5
            have ep6 := k6 _ _ offp.1 offp.2 ep5
            refine ⟨4, r6, rfl, rfl, _, rfl, o, _, rfl, SqL.of eo6, fun l nl => ?_⟩
            obtain ⟨k, ek⟩ := Int.eq_ofNat_of_zero_le (show 0 ≤ 4 + r6 by omega)
            have ecut : cutV (txs (cs.map fun c => [c])) none (some (4 + r6)) = txs ((cs.take k).map fun c => [c]) := by
              rw [ek]
              rw [cut_front]
              simp [txs, List.map_take]
            have sl := same_upd (o := .lst (cutV (txs (cs.map fun c => [c])) none (some (4 + r6)))) nl
            refine ⟨l, cs.take k, t2 + 1 + 1, rfl, by rw [upd_same, ecut], by rw [List.length_take]; omega, fun z hz => ocs z (List.mem_of_mem_take hz), sl _ _ ep6, by omega, by omega, hS6.same sl, fun b u b1 b2 e => sl _ _ (((ky.trans k5).trans k6) b u b1 b2 e)⟩
          · exact ⟨o, cs, t2 + 1, rfl, k5 _ _ offo1.1 offo1.2 eoy, by omega, ocs, k5 _ _ offp.1 offp.2 epy, by omega, by omega, hS5, ky.trans k5⟩
        rintro _ H9 ⟨o2, cs2, t3, rfl, e2, l2, ok2, ep9, w0, w1, hS9, k9⟩
        have e2' := e2
        rw [txs_strs] at e2'
        refine ⟨⟨_, rfl⟩, _, rfl, _, o2, _, rfl, rfl, .inl (SqL.of e2'), fits_txs (by rw [ones_flat]; omega), ?_⟩
        rw [join_txs, ones_flat]
        have bnd : t3 ≤ t + 20 * ((i + 1 : Nat) : Int) := by omega
        refine ⟨_, rfl, _, rfl, rfl, _, rfl, ite2 (fun c1 => ?_) (fun c1 => ?_)⟩
        · refine ⟨_, rfl, _, rfl, p, _, rfl, .inl (SqL.of ep9), rfl, flat_txs os, _, rfl, ite2 (fun c2 => ?_) (fun c2 => ?_)⟩
          · refine ⟨_, rfl, p, _, rfl, .inl (SqL.of ep9), _, _, rfl, rfl, _, rfl, ite2 (fun c3 => ?_) (fun c3 => ?_)⟩
            · have lt : os.length < 23 := by
                have := of_decide_eq_true c3
                rw [List.length_map] at this
                omega
              refine ⟨_, rfl, .inl ⟨rfl, _, SqL.of ep9⟩, _, rfl, p, _, _, rfl, rfl, ep9, small1000 (by rw [List.length_map]; omega), ?_⟩
              refine ⟨os ++ [cs2], t3, _, _, _, _, _, _, rfl, by rw [upd_same, txs_snoc], by rw [List.length_append]; show os.length + 1 ≤ 23; omega, fun z hz => ?_, by omega, bnd, hS9.upd offp.1 offp.2, fun b u b1 b2 e => ?_⟩
              · rcases List.mem_append.mp hz with y | y
                · exact hall z y
                · rw [List.mem_singleton.mp y]
                  refine ⟨fun w => ?_, l2, ok2⟩
                  rw [w, decide_eq_true rfl] at c1
                  cases c1
              · have nb : b ≠ p := ne_of_none e np
                rw [upd_ne nb]
                exact k9 b u b1 b2 e
            · exact ⟨os, t3, _, _, _, _, _, _, rfl, ep9, hl, hall, by omega, bnd, hS9, k9⟩
          · exact ⟨os, t3, _, _, _, _, _, _, rfl, ep9, hl, hall, by omega, bnd, hS9, k9⟩
        · exact ⟨os, t3, _, _, _, _, _, _, rfl, ep9, hl, hall, by omega, bnd, hS9, k9⟩
    · obtain ⟨os, t1, y3, y4, y5, y6, y7, y8, rfl, ep, hl, hall, u0, u1, hSx, kx⟩ := hP
      exact ⟨_, rfl, q p Hx os t1 np ep hl hall u0 (by omega) hSx kx⟩
end

/-! ### fewest by trying -/
/-- truths, one for each item -/
theorem lc_bs {K : PySem.W.Frag} {a : Addr} {xs : List V} {g : TG} {tt : TT} {te : TE} {vs : List Nat} {σ : L2.St} {H1 : Hp} {D : Addr} {Qd : Hp → Prop} (bs : List Bool) (nD : H1 D = none) (ea : H1 a = some (.lst xs)) (hl : bs.length = xs.length) (hz : xs.length ≤ 1000)
    (turn : ∀ (i : Nat) (x : V) (b : Bool) (H : Hp) (Kt : V → Hp → Prop) (Kn : Hp → Prop), xs[i]? = some x → bs[i]? = some b → Same H1 H → (∀ H4, Same H H4 → Kt (.bl b) H4) → g x (wipe σ vs) H fun σ2 H2 => wipe σ2 vs = wipe σ vs ∧ tt σ2 H2 fun b H3 => if b = true then te σ2 H3 Kt else Kn H3)
    (fin : ∀ H, Same H1 H → H D = some (.lst (bs.map V.bl)) → Qd H) : LcW (Itl K a) g tt te vs σ D Qd H1 := by
  refine lc_it walk_list (fun j H => Same H1 H ∧ H D = some (.lst ((bs.take j).map V.bl))) ⟨same_upd nD, upd_same⟩ (fun i H _ p => SqL.of (p.1 _ _ ea)) (fun i x H H' hi hP hy => ?_) (fun H hP => ?_)
  · obtain ⟨sm, eD⟩ := hP
    obtain ⟨rfl, hx⟩ := hy
    have hb : bs[i]? = some bs[i] := List.getElem?_eq_getElem (by omega)
    refine turn i x _ H' _ _ hx hb sm fun H4 s4 => ⟨_, s4 _ _ eD, Nat.lt_of_lt_of_le (show _ < 1000 by rw [List.length_map, List.length_take]; omega) (by decide), fun b o e => ?_, ?_⟩
    · rw [upd_ne (ne_of_none e nD)]
      exact s4 _ _ (sm b o e)
    · rw [upd_same, List.take_add_one, hb, List.map_append]
      rfl
  · obtain ⟨sm, eD⟩ := hP
    rw [← hl, List.take_length] at eD
    exact fin H sm eD
def placesF (s : Nat) : List Int := ((List.range 10).filter fun p => s.testBit p).map fun p : Nat => (p : Int)
theorem placesF_mem {s : Nat} {x : Int} : x ∈ placesF s ↔ ∃ p : Nat, x = (p : Int) ∧ p < 10 ∧ s.testBit p = true := by
  unfold placesF
  rw [List.mem_map]
  constructor
  · rintro ⟨p, hp, rfl⟩
    obtain ⟨h1, h2⟩ := List.mem_filter.mp hp
    exact ⟨p, rfl, List.mem_range.mp h1, h2⟩
  · rintro ⟨p, rfl, h1, h2⟩
    exact ⟨p, List.mem_filter.mpr ⟨List.mem_range.mpr h1, h2⟩, rfl⟩
theorem placesF_inc (s : Nat) : Inc 10 (placesF s) := by
  refine ⟨?_, fun x hx => ?_⟩
  · unfold placesF
    rw [List.pairwise_map]
    exact List.Pairwise.imp (fun h => Int.ofNat_lt.mpr h) (List.pairwise_lt_range.filter _)
  · obtain ⟨p, rfl, h, _⟩ := placesF_mem.mp hx
    omega
theorem inc_ext : ∀ {a b : List Int}, a.Pairwise (· < ·) → b.Pairwise (· < ·) → (∀ x, x ∈ a ↔ x ∈ b) → a = b
  | [], [], _, _, _ => rfl
  | [], y :: b, _, _, h => absurd ((h y).mpr (List.mem_cons_self ..)) (by simp)
  | x :: a, [], _, _, h => absurd ((h x).mp (List.mem_cons_self ..)) (by simp)
  | x :: a, y :: b, h1, h2, h => by
    obtain ⟨p1, p2⟩ := List.pairwise_cons.mp h1
    obtain ⟨q1, q2⟩ := List.pairwise_cons.mp h2
    have e : x = y := by
      rcases List.mem_cons.mp ((h x).mp (List.mem_cons_self ..)) with z | z
      · exact z
      · rcases List.mem_cons.mp ((h y).mpr (List.mem_cons_self ..)) with w | w
        · exact w.symm
        · have := p1 y w
          have := q1 x z
          omega
    subst e
    rw [inc_ext p2 q2 fun z => ⟨fun hz => ?_, fun hz => ?_⟩]
    · rcases List.mem_cons.mp ((h z).mp (List.mem_cons_of_mem _ hz)) with w | w
      · have := p1 z hz; omega
      · exact w
    · rcases List.mem_cons.mp ((h z).mpr (List.mem_cons_of_mem _ hz)) with w | w
      · have := q1 z hz; omega
      · exact w

/-! ### which places tell two marks -/
theorem cutS_one (l : List Nat) (p : Nat) : cutS (SX.S l) (some (p : Int)) (some ((p : Int) + 1)) = SX.S (l[p]?).toList := by
  have e : ((p : Int) + 1) = ((p + 1 : Nat) : Int) := by omega
  rw [e, cutS_mid, show p + 1 - p = 1 by omega]
  by_cases h : p < l.length
  · rw [List.getElem?_eq_getElem h, List.drop_eq_getElem_cons h]
    rfl
  · rw [List.getElem?_eq_none (by omega), List.drop_eq_nil_of_le (by omega)]
    rfl
theorem cut_eq {l r : List Nat} {p : Nat} : cutS (SX.S l) (some (p : Int)) (some ((p : Int) + 1)) = cutS (SX.S r) (some (p : Int)) (some ((p : Int) + 1)) ↔ l[p]? = r[p]? := by
  rw [cutS_one, cutS_one]
  constructor
  · intro h
    have := SX.S_inj h
    cases h1 : l[p]? <;> cases h2 : r[p]? <;> rw [h1, h2] at this <;> simp_all
  · intro h
    rw [h]
def tellsB (ps : List Int) (l r : List Nat) : Bool := ps.any fun p => !decide (l[p.toNat]? = r[p.toNat]?)
theorem tells_iff {ps : List Int} {l r : List Nat} (h : ∀ p ∈ ps, 0 ≤ p) : tellsB ps l r = true ↔ ∃ p ∈ ps, p ∈ unl l r := by
  unfold tellsB
  rw [List.any_eq_true]
  constructor
  · rintro ⟨p, hp, e⟩
    exact ⟨p, hp, unl_mem.mpr ⟨p.toNat, (Int.toNat_of_nonneg (h p hp)).symm, by simpa using e⟩⟩
  · rintro ⟨p, hp, e⟩
    obtain ⟨q, rfl, hq⟩ := unl_mem.mp e
    exact ⟨_, hp, by simpa using hq⟩
def spTells : Sp := fun vs H Q _ => ∃ (a : Addr) (ps : List Int) (l r : List Nat), vs = [.ref a, .str (SX.S l), .str (SX.S r)] ∧ IntsA H a ps ∧ (∀ p ∈ ps, 0 ≤ p) ∧ ps.length ≤ 900 ∧ l.length ≤ 900 ∧ r.length ≤ 900 ∧ ∀ H', Same H H' → Q (.bl (tellsB ps l r)) H'
abbrev sTells : Stmt := topS 12
theorem scTells : FnScope ["_law_places", "_law_mark_here", "_law_other", "_law_place"] ["_law_places", "_law_mark_here", "_law_other"] (defScope sTells) := ⟨rfl, rfl, rfl, by decide +kernel, rfl, by decide +kernel, by decide +kernel⟩
/-! ### signs exchanged -/
def exF (c : Nat) : Nat := (sg36[(sg36.idxOf c * 5 + 7) % 36]?).getD 0
theorem exF_inj : ∀ a ∈ sg36, ∀ b ∈ sg36, exF a = exF b → a = b := by
  have h : (sg36.all fun a => sg36.all fun b => !decide (exF a = exF b) || decide (a = b)) = true := by decide +kernel
  intro a ha b hb e
  have := List.all_eq_true.mp (List.all_eq_true.mp h a ha) b hb
  simpa [e] using this
theorem exF_ok : ∀ a ∈ sg36, exF a ∈ sg36 := fun a ha => of_decide_eq_true (List.all_eq_true.mp (by decide +kernel : (sg36.all fun a => decide (exF a ∈ sg36)) = true) a ha)
theorem ex_at {i c : Nat} (h : sg36[i]? = some c) : atI sg36 (((i : Int) * 5 + 7) % 36) = some (exF c) := by
  obtain ⟨lt, e⟩ := List.getElem?_eq_some_iff.mp h
  have l36 := sg36_len
  have em : ((i : Int) * 5 + 7) % 36 = (((i * 5 + 7) % 36 : Nat) : Int) := by omega
  have lt2 : (i * 5 + 7) % 36 < sg36.length := by omega
  have ei : sg36.idxOf c = i := by
    have hh : ((List.range 36).all fun i => decide (sg36.idxOf (sg36.getD i 0) = i)) = true := by decide +kernel
    have := of_decide_eq_true (List.all_eq_true.mp hh i (List.mem_range.mpr (by omega)))
    rw [List.getD_eq_getElem?_getD, h] at this
    exact this
  rw [em, atI_nat (List.getElem?_eq_getElem lt2)]
  unfold exF
  rw [ei, List.getElem?_eq_getElem lt2]
  rfl
def spExch : Sp := fun vs H Q _ => ∃ (l : List Nat), vs = [.str (SX.S l)] ∧ l.length ≤ 30 ∧ okS l ∧ ∀ H', Same H H' → Q (.str (SX.S (l.map exF))) H'
abbrev sExch : Stmt := topS 14
theorem scExch : FnScope ["_law_mark_here", "_law_signs", "_law_sign"] ["_law_mark_here"] (defScope sExch) := ⟨rfl, rfl, rfl, by decide +kernel, rfl, by decide +kernel, by decide +kernel⟩
theorem unl_map {l r : List Nat} (hl : okS l) (hr : okS r) : unl (l.map exF) (r.map exF) = unl l r := by
  unfold unl
  rw [List.length_map, List.length_map]
  congr 1
  refine List.filter_congr fun p _ => ?_
  unfold unB
  rw [List.getElem?_map, List.getElem?_map]
  congr 1
  refine decide_eq_decide.mpr ?_
  cases h1 : l[p]? with
  | none => cases h2 : r[p]? <;> simp
  | some a =>
    cases h2 : r[p]? with
    | none => simp
    | some b =>
      simp only [Option.map_some, Option.some.injEq]
      exact ⟨exF_inj a (hl a (List.mem_of_getElem? h1)) b (hr b (List.mem_of_getElem? h2)), fun z => by rw [z]⟩
theorem Best.exch {ms : List (List Nat)} {mk : List Nat} {ps : List Int} (h : Best ms mk ps) (ho : ∀ o ∈ ms, okS o) (hk : okS mk) : Best (ms.map fun o => o.map exF) (mk.map exF) ps := by
  refine ⟨h.inc, fun o' ho' ne => ?_, fun c hc hh => h.least c hc fun o hm ne => ?_⟩
  · obtain ⟨o, hm, rfl⟩ := List.mem_map.mp ho'
    rw [unl_map hk (ho o hm)]
    exact h.hits o hm fun z => ne (by rw [z])
  · rw [← unl_map hk (ho o hm)]
    refine hh _ (List.mem_map_of_mem hm) fun z => ?_
    obtain ⟨p, hp⟩ := unl_ne (Ne.symm ne)
    rw [← unl_map hk (ho o hm), z] at hp
    obtain ⟨q, _, hq⟩ := unl_mem.mp hp
    exact hq rfl
section
variable {K : PySem.W.Frag} {mg : Str → Option Value} {P : Program} {w : World} {base : Heap} {Ms Xs : List Addr} {Pme Ppa : Addr}
theorem ok_Tells {f : Addr} {fd : FuncData} (F : Fun K "_law_tells" "_law_tells" sTells f fd) (m_any : mg "any" = none) : FnOk P w K mg base CX0 1 f fd ["_law_places", "_law_mark_here", "_law_other"] spTells := by
  refine F.ok scTells (fun vs H Q E h => ?_) (fun cdv A outer s H vs Q E hr h => ?_)
  · obtain ⟨a, ps, l, r, rfl, _⟩ := h
    rfl
  · obtain ⟨a, ps, l, r, rfl, hA, hps, hpl, hl, hr0, q⟩ := h
    refine ⟨_, pss_one (ps_ret (pe_callB (cr_any rfl) (by rfl) m_any (by decide +kernel) (pa_cons (pe_lc (own := [("_law_place", 3)]) (g := (gName 3)) (tt := tYes) (te := (tOp (rNe) (tSl (rSlS) (tVar 1) _ _) (tSl (rSlS) (tVar 2) _ _))) rfl scTells.nd (pi_list (pv 0)) (blkOk_by (own := [("_law_place", 3)]) (N := ["_law_places", "_law_mark_here", "_law_other", "_law_place"]) (sc := defScope sTells) (by decide +kernel)) (fun _ _ _ _ _ => (pg_name (i := 3) scTells.nd rfl (.inl rfl))) (fun _ _ _ _ _ => pts_nil) (fun _ _ _ _ _ => (pe_cmpR op_ne (pe_slice sl_str (pv 1) (po_some (pv 3)) (po_some (pe_op op_add (pv 3) pe_int))) (pe_slice sl_str (pv 2) (po_some (pv 3)) (po_some (pe_op op_add (pv 3) pe_int))) (nomark _)))) pa_nil))), ?_⟩
    have hz : ∀ l : List Nat, l.length ≤ 900 → (SX.S l).length ≤ sizeLine := fun l hl => S_le (by omega)
    refine ⟨_, rfl, a, rfl, ⟨_, SqL.of hA⟩, fun G nG => lc_bs (bs := ps.map fun p => !decide (l[p.toNat]? = r[p.toNat]?)) nG hA (by rw [List.length_map, List.length_map]) (by rw [List.length_map]; omega) (fun j x bb H2 Kt Kn hx2 hb2 s2 k => ?_) (fun H3 s3 eG => ?_)⟩
    · rw [List.getElem?_map] at hx2 hb2
      cases hp : ps[j]? with
      | none => rw [hp] at hx2; cases hx2
      | some p =>
        rw [hp] at hx2 hb2
        cases hx2
        cases hb2
        obtain ⟨n, rfl⟩ := Int.eq_ofNat_of_zero_le (hps p (List.mem_of_getElem? hp))
        refine ⟨rfl, _, rfl, _, rfl, _, rfl, _, rfl, _, _, rfl, rfl, _, rfl, _, rfl, hz l hl, _, rfl, _, rfl, _, rfl, _, rfl, _, _, rfl, rfl, _, rfl, _, rfl, hz r hr0, rfl, ?_⟩
        have e : decide (V.str (cutS (SX.S l) (some (n : Int)) (some ((n : Int) + 1))) = V.str (cutS (SX.S r) (some (n : Int)) (some ((n : Int) + 1)))) = decide (l[n]? = r[n]?) := decide_eq_decide.mpr ⟨fun z => cut_eq.mp (V.str.inj z), fun z => by rw [cut_eq.mpr z]⟩
        rw [e]
        exact k H2 (Same.refl _)
    · refine ⟨G, _, rfl, SqL.of eG, ?_⟩
      rw [List.any_map]
      exact q H3 s3
theorem ok_Exch {f : Addr} {fd : FuncData} (F : Fun K "_law_exchanged" "_law_exchanged" sExch f fd) : FnOk P w K mg base CX0 1 f fd ["_law_mark_here"] spExch := by
  refine F.ok scExch (fun vs H Q E h => ?_) (fun cdv A outer s H vs Q E hr h => ?_)
  · obtain ⟨l, rfl, _⟩ := h
    rfl
  · obtain ⟨l, rfl, hl, ho, q⟩ := h
    refine ⟨_, pss_cons (ps_set (i := 1) scExch.nd rfl (.inr rfl) pe_str)
      (pss_one (ps_ret (pe_join pe_str (pe_lc (own := [("_law_sign", 2)]) (g := (gName 2)) (tt := tYes) (te := (tOp (L2.rIxS) (tVar 1) (tOp (rI (fun _ j => 0 < j) fun i j => .int (i % j)) (tOp (rI0 fun i j => .int (i + j)) (tOp (rI CMulW fun i j => .int (i * j)) (tBM K "str" rSIx (tVar 1) (tCons (tVar 2) tNil)) (tC (.int 5))) (tC (.int 7))) (tC (.int 36))))) rfl scExch.nd (pi_str (pv 0)) (blkOk_by (own := [("_law_sign", 2)]) (N := ["_law_mark_here", "_law_signs", "_law_sign"]) (sc := defScope sExch) (by decide +kernel)) (fun _ _ _ _ _ => (pg_name (i := 2) scExch.nd rfl (.inl rfl))) (fun _ _ _ _ _ => pts_nil) (fun _ _ _ _ _ => (pe_ix ix_str (pv 1) (pe_op op_mod (pe_op op_add (pe_op op_mulW (pe_bm PySem.F.plainAttrs_str PySem.F.slot_str_index PySem.F.type_str_index mt_sindex (pv 1) (pa_cons (pv 2) pa_nil)) pe_int) pe_int) pe_int) (fun _ _ => rfl))))))), ?_⟩
    have hz : (SX.S l).length ≤ sizeLine := S_le (by omega)
    have hcp : ∀ i : Nat, (SX.S l).cps[i]? = l[i]? := fun i => by
      rw [← Array.getElem?_toList, S_cps]
    have hsz : (SX.S l).cps.size = l.length := SX.S_len l
    refine ⟨⟨_, rfl⟩, _, rfl, _, rfl, fun D nD => lc_it walk_str (fun j H' => Same H H' ∧ H' D = some (.lst (txs ((l.take j).map fun c => [exF c])))) ⟨same_upd nD, upd_same⟩ (fun _ _ _ _ => trivial) (fun i x H' H'' hi hP hy => ?_) (fun H1 hP => ?_)⟩
    · obtain ⟨sm, eD⟩ := hP
      obtain ⟨rfl, c, hc, rfl⟩ := hy
      rw [hsz] at hi
      rw [hcp] at hc
      obtain ⟨i0, rest, hocc, hi0⟩ := occ_sg (ho c (List.mem_of_getElem? hc))
      have lt36 : i0 < 36 := by
        have := (List.getElem?_eq_some_iff.mp hi0).1
        rw [sg36_len] at this
        exact this
      refine ⟨rfl, _, rfl, _, rfl, rfl, _, rfl, sgnS, _, i0, rest, rfl, rfl, hocc, _, _, rfl, rfl, mulw (by omega) (by decide), _, _, rfl, rfl, _, _, rfl, rfl, (show (0 : Int) < 36 by decide), _, _, _, rfl, rfl, (by decide), ex_at hi0, _, eD, ?_, fun b o e => ?_, ?_⟩
      · exact small1000 (by rw [List.length_map, List.length_map, List.length_take]; omega)
      · rw [upd_ne (ne_of_none e nD)]
        exact sm b o e
      · rw [upd_same, List.take_add_one, hc, List.map_append]
        simp [txs]
    · obtain ⟨sm, eD⟩ := hP
      rw [hsz, List.take_length] at eD
      have ef : (l.map fun c => [exF c]).flatten = l.map exF := by
        rw [← ones_flat (l.map exF), List.map_map]
        rfl
      rw [txs_strs] at eD
      refine ⟨_, D, _, rfl, rfl, .inl (SqL.of eD), fits_txs (by rw [ef, List.length_map]; omega), ?_⟩
      rw [join_txs, ef]
      exact q H1 sm
end

/-! ### told places that tell, and no fewer do -/
def spRight (K : PySem.W.Frag) (Ms Xs : List Addr) (Pm Pa : Addr) : Sp := fun vs H Q _ => ∃ (b : Addr) (mk : List Nat) (os : List (List Nat)), vs = [.str (SX.S mk), .ref b] ∧ H b = some (.lst (txs os)) ∧ os.length ≤ 30 ∧ mk.length ≤ 10 ∧ (∀ o ∈ os, o ≠ mk ∧ o.length ≤ 10) ∧ GX.TQ Ms Xs H ∧ Pm ∈ Ms ∧ Pa ∈ Ms ∧
  ∀ p H2 ps, H p = none → GX.NoTab H H2 → GX.TQ Ms Xs H2 → IntsA H2 p ps → Best (mk :: os) mk ps → Q (.ref p) H2
abbrev sRight : Stmt := topS 13
theorem scRight : FnScope ["_law_mark_here", "_law_others_here", "_law_found", "_law_some", "_law_places", "_law_place", "_law_other"] ["_law_mark_here", "_law_others_here"] (defScope sRight) := ⟨rfl, rfl, rfl, by decide +kernel, rfl, by decide +kernel, by decide +kernel⟩
theorem tells_hits {mk : List Nat} {os : List (List Nat)} {ps : List Int} (hp : ∀ p ∈ ps, 0 ≤ p) (ho : ∀ o ∈ os, o ≠ mk) : (os.map fun o => tellsB ps mk o).all id = true ↔ Hits (mk :: os) mk ps := by
  rw [List.all_map, List.all_eq_true]
  constructor
  · intro h o hm ne
    rcases List.mem_cons.mp hm with z | z
    · exact absurd z ne
    · exact (tells_iff hp).mp (h o z)
  · intro h o hm
    exact (tells_iff hp).mpr (h o (List.mem_cons_of_mem _ hm) (ho o hm))
section
variable {K : PySem.W.Frag} {mg : Str → Option Value} {P : Program} {w : World} {base : Heap} {Ms Xs : List Addr} {Pme Ppa : Addr}
theorem ok_Right {f : Addr} {fd : FuncData} (F : Fun K "_law_right" "_law_right" sRight f fd) (C_places_apart : Cal P w K mg base 9 "places_apart" ["marks", "mark"] (spApart K Ms Xs Pme Ppa)) (C__law_tells : Cal P w K mg base 1 "_law_tells" ["_law_places", "_law_mark_here", "_law_other"] spTells) (m_isinstance : mg "isinstance" = none) (m_list : mg "list" = none) (m_sorted : mg "sorted" = none) (m_set : mg "set" = none) (m_range : mg "range" = none) (m_all : mg "all" = none) (m_int : mg "int" = none) (m_len : mg "len" = none) : FnOk P w K mg base CX0 10 f fd ["_law_mark_here", "_law_others_here"] (spRight K Ms Xs Pme Ppa) := by
  refine F.ok scRight (fun vs H Q E h => ?_) (fun cdv A outer s H vs Q E hr h => ?_)
  · obtain ⟨b, mk, os, rfl, _⟩ := h
    rfl
  · obtain ⟨b, mk, os, rfl, hB, hol, hk, hos, hT, hPm, hPa, q⟩ := h
    refine ⟨_, pss_cons (ps_set (i := 2) scRight.nd rfl (.inr rfl) (pe_own C_places_apart hr (by rfl) (pa_cons (pe_op op_cat (pe_lst (pa_cons (pv 0) pa_nil)) (pv 1)) (pa_cons (pv 0) pa_nil))))
      (pss_cons (ps_if (PW.pt (pw_or (pt_not (pt_val (pe_callB call_isi (by rfl) m_isinstance (by decide +kernel) (pa_cons (pv 2) (pa_cons (pe_bltn (v := .ty "list") (by rfl) m_list (by decide +kernel) rfl) pa_nil))))) (pw_or (pt_cmpR (op_neD hr.units) (pv 2) (pe_sortedSet (by rfl) m_sorted (by rfl) m_set (pv 2)) (nomark _)) (pw_or1 (pt_not (pt_val (pe_callB (cr_all rfl) (by rfl) m_all (by decide +kernel) (pa_cons (pe_lc (own := [("_law_place", 5)]) (g := (gName 5)) (tt := tYes) (te := (tOp (_) (tVar 5) _)) rfl scRight.nd (pi_list (pv 2)) (blkOk_by (own := [("_law_place", 5)]) (N := ["_law_mark_here", "_law_others_here", "_law_found", "_law_some", "_law_places", "_law_place", "_law_other"]) (sc := defScope sRight) (by decide +kernel)) (fun _ _ _ _ _ => (pg_name (i := 5) scRight.nd rfl (.inl rfl))) (fun _ _ _ _ _ => pts_nil) (fun _ _ _ _ _ => (pe_cmpR op_in_rng (pv 5) (pe_callTy cr_range1 (by rfl) m_range (by decide +kernel) (pa_cons pe_int pa_nil)) (by rfl)))) pa_nil)))))))) (pss_one (ps_ret pe_non))
        pss_nil)
      (pss_cons (ps_if (pt_not (pt_val (pe_callB (cr_all rfl) (by rfl) m_all (by decide +kernel) (pa_cons (pe_lc (own := [("_law_other", 6)]) (g := (gName 6)) (tt := tYes) (te := (tCall spTells [] E0 (tCons (tVar 2) (tCons (tVar 0) (tCons (tVar 6) tNil))))) rfl scRight.nd (pi_list (pv 1)) (blkOk_by (own := [("_law_other", 6)]) (N := ["_law_mark_here", "_law_others_here", "_law_found", "_law_some", "_law_places", "_law_place", "_law_other"]) (sc := defScope sRight) (by decide +kernel)) (fun _ _ _ _ _ => (pg_name (i := 6) scRight.nd rfl (.inl rfl))) (fun _ _ _ _ _ => pts_nil) (fun _ _ _ _ _ => (pe_own C__law_tells (hr.mono (show 1 ≤ 9 by decide)) (by rfl) (pa_cons (pv 2) (pa_cons (pv 0) (pa_cons (pv 6) pa_nil)))))) pa_nil)))) (pss_one (ps_ret pe_non))
        pss_nil)
      (pss_cons (ps_for PassesOwn.never rfl (pi_range1 rfl m_range (pa_cons (pe_op op_mulW pe_int (pe_callTy call_int1 (by rfl) m_int (by decide +kernel) (pa_cons (pe_cmpR (op_neD hr.units) (pv 2) (pe_lst pa_nil) (nomark _)) pa_nil))) pa_nil)) (pg_name (i := 3) scRight.nd rfl (.inr rfl))
        (pss_cons (ps_set (i := 4) scRight.nd rfl (.inr rfl) (pe_lc (own := [("_law_place", 5)]) (g := (gName 5)) (tt := (tTru K (tOp (fun x y H Q => ∃ n m : Nat, x = .int (n : Int) ∧ y = .int (m : Int) ∧ Q (.int ((n &&& m : Nat) : Int)) H) (tOp (fun x y H Q => ∃ n k : Nat, x = .int (n : Int) ∧ y = .int (k : Int) ∧ Q (.int ((n >>> k : Nat) : Int)) H) (tVar 3) (tVar 5)) (tC (.int 1))))) (te := (tVar 5)) rfl scRight.nd (pi_range1 rfl m_range (pa_cons pe_int pa_nil)) (blkOk_by (own := [("_law_place", 5)]) (N := ["_law_mark_here", "_law_others_here", "_law_found", "_law_some", "_law_places", "_law_place", "_law_other"]) (sc := defScope sRight) (by decide +kernel)) (fun _ _ _ _ _ => (pg_name (i := 5) scRight.nd rfl (.inl rfl))) (fun _ _ _ _ _ => (pts_one (pt_truth (pe_op op_andNN (pe_op op_shrNN (pv 3) (pv 5)) pe_int) (by intro _; rfl)))) (fun _ _ _ _ _ => (pv 5))))
        (pss_one (ps_if (PW.pt (pw_and (pt_cmpR op_eq (pe_callB call_len_seq (by rfl) m_len PySem.boot_len (pa_cons (pv 4) pa_nil)) (pe_op op_sub (pe_callB call_len_seq (by rfl) m_len PySem.boot_len (pa_cons (pv 2) pa_nil)) pe_int) (nomark _)) (pw_and1 (pt_val (pe_callB (cr_all rfl) (by rfl) m_all (by decide +kernel) (pa_cons (pe_lc (own := [("_law_other", 6)]) (g := (gName 6)) (tt := tYes) (te := (tCall spTells [] E0 (tCons (tVar 4) (tCons (tVar 0) (tCons (tVar 6) tNil))))) rfl scRight.nd (pi_list (pv 1)) (blkOk_by (own := [("_law_other", 6)]) (N := ["_law_mark_here", "_law_others_here", "_law_found", "_law_some", "_law_places", "_law_place", "_law_other"]) (sc := defScope sRight) (by decide +kernel)) (fun _ _ _ _ _ => (pg_name (i := 6) scRight.nd rfl (.inl rfl))) (fun _ _ _ _ _ => pts_nil) (fun _ _ _ _ _ => (pe_own C__law_tells (hr.mono (show 1 ≤ 9 by decide)) (by rfl) (pa_cons (pv 4) (pa_cons (pv 0) (pa_cons (pv 6) pa_nil)))))) pa_nil)))))) (pss_one (ps_ret pe_non))
          pss_nil))))
      (pss_one (ps_ret (pv 2)))))), ?_⟩
    have lt1 : (txs os).length = os.length := List.length_map ..
    refine ⟨_, rfl, (by show 1 ≤ sizeLine; decide), fun l1 nl1 => ?_⟩
    have s1 := same_upd (o := .lst [.str (SX.S mk)]) nl1
    refine ⟨_, rfl, l1, b, _, _, rfl, rfl, upd_same, s1 _ _ hB, Nat.le_trans (show _ ≤ 1000 by rw [lt1]; show 1 + _ ≤ _; omega) (by decide), fun l2 nl2 => ?_⟩
    have s2 := same_upd (o := .lst ([.str (SX.S mk)] ++ txs os)) nl2
    have s12 := s1.trans s2
    refine ⟨_, rfl, l2, mk :: os, mk, rfl, .inl upd_same, by show os.length + 1 ≤ 60; omega, List.mem_cons_self .., fun o ho => ?_, (hT.same s12), hPm, hPa, fun F H2 ps nF nH tH eF hb => ?_⟩
    · rcases List.mem_cons.mp ho with z | z
      · rw [z]; exact hk
      · exact (hos o z).2
    have n02 : GX.NoTab H H2 := (NoTab.same s12).trans nH
    have nF0 : H F = none := (NoTab.same s12).free nF
    have lps : ps.length ≤ 10 := inc_len (n := 10) hb.inc
    have pos : ∀ p ∈ ps, 0 ≤ p := fun p hp => (hb.inc.2 p hp).1
    have eB2 := n02.lst hB
    have eF' : H2 F = some (.lst (ps.map V.int)) := eF
    generalize upd (upd H l1 (.lst [.str (SX.S mk)])) l2 (.lst ([.str (SX.S mk)] ++ txs os)) = H0 at *
    -- a rising list of places
    refine ⟨_, rfl, _, _, .type "list", .type "list", true, rfl, .ty _, .base (.lst eF'), kit_ty (by decide +kernel), _, rfl, ite2 (fun z => nomatch z) (fun _ => ?_)⟩
    refine ⟨_, rfl, _, rfl, F, ps, rfl, SqL.of eF', by omega, fun qs g hq1 hq2 ng => ?_⟩
    have eq : qs = ps := inc_ext hq1 hb.inc.1 hq2
    subst eq
    have sg := same_upd (o := .lst (qs.map V.int)) ng
    refine ⟨_, _, .lst (SqL.of (sg _ _ eF')) (dp_ints qs), .lst (SqL.of upd_same) (dp_ints qs), shaped_ints qs, shaped_ints qs, _, rfl, ?_⟩
    rw [SeqAt.eqv_refl _ (SeqAt.canLay_of_shaped (shaped_ints qs))]
    refine ite2 (fun z => nomatch z) (fun _ => ?_)
    have eFg := sg _ _ eF'
    have eBg := sg _ _ eB2
    have n3 : GX.NoTab H2 (upd H2 g (.lst (qs.map V.int))) := NoTab.same sg
    have t3 := tH.same sg
    generalize upd H2 g (.lst (qs.map V.int)) = H3 at eFg eBg n3 t3
    refine ⟨_, rfl, F, rfl, ⟨_, SqL.of eFg⟩, fun G nG => lc_bs (bs := qs.map fun _ => true) nG eFg (by rw [List.length_map, List.length_map]) (by rw [List.length_map]; omega) (fun j x bb H4 Kt Kn hx2 hb2 s4 k => ?_) (fun H4 s4 eG => ?_)⟩
    · rw [List.getElem?_map] at hx2 hb2
      cases hp : qs[j]? with
      | none => rw [hp] at hx2; cases hx2
      | some p =>
        rw [hp] at hx2 hb2
        cases hx2
        cases hb2
        have hin := hb.inc.2 p (List.mem_of_getElem? hp)
        refine ⟨rfl, _, rfl, 10, rfl, fun r nr => ?_⟩
        have sr := same_upd (o := .rng 0 10) nr
        refine ⟨p, r, 0, 10, rfl, rfl, upd_same, ?_⟩
        rw [decide_eq_true hin]
        exact k _ sr
    refine ⟨G, _, rfl, SqL.of eG, _, rfl, ?_⟩
    have eall : (qs.map fun _ => true).all id = true := by
      rw [List.all_map, List.all_eq_true]
      exact fun _ _ => rfl
    rw [eall]
    refine ite2 (fun z => nomatch z) (fun _ => ?_)
    have n4 := n3.trans (NoTab.same s4)
    have t4 := t3.same s4
    have eF4 := s4 _ _ eFg
    have eB4 := s4 _ _ eBg
    -- they tell the mark from each other one
    refine ⟨_, rfl, b, rfl, ⟨_, SqL.of eB4⟩, fun G2 nG2 => lc_bs (bs := os.map fun o => tellsB qs mk o) nG2 eB4 (by rw [List.length_map, List.length_map]) (by rw [List.length_map]; omega) (fun j x bb H5 Kt Kn hx2 hb2 s5 k => ?_) (fun H5 s5 eG2 => ?_)⟩
    · rw [List.getElem?_map] at hx2 hb2
      cases ho : os[j]? with
      | none => rw [ho] at hx2; cases hx2
      | some o =>
        rw [ho] at hx2 hb2
        cases hx2
        cases hb2
        have hom := hos o (List.mem_of_getElem? ho)
        exact ⟨rfl, _, rfl, _, rfl, _, rfl, F, qs, mk, o, rfl, s5 _ _ eF4, pos, by omega, by omega, by omega, fun H6 s6 => k _ s6⟩
    refine ⟨G2, _, rfl, SqL.of eG2, _, rfl, ?_⟩
    rw [(tells_hits pos fun o ho => (hos o ho).1).mpr hb.hits]
    refine ite2 (fun z => nomatch z) (fun _ => ?_)
    have n5 := n4.trans (NoTab.same s5)
    have t5 := t4.same s5
    have eF5 := s5 _ _ eF4
    have eB5 := s5 _ _ eB4
    -- no set of one place less does
    refine ⟨_, rfl, Nat.zero_le _, fun e ne => ?_⟩
    have se := same_upd (o := .lst []) ne
    have eFe := se _ _ eF5
    have eBe := se _ _ eB5
    have n6 := n5.trans (NoTab.same se)
    have t6 := t5.same se
    have eei : (!PyData.eqv (PyData.list (qs.map PyData.int)) (PyData.list [])) = !qs.isEmpty := by
      cases qs with
      | nil => rw [eqv_nil0]; rfl
      | cons n r => rw [eqv_nil n r]; rfl
    have hm : ((1024 : Int) * (if (!qs.isEmpty) = true then 1 else 0)).toNat ≤ 1024 ∧ (0 < ((1024 : Int) * (if (!qs.isEmpty) = true then 1 else 0)).toNat → qs ≠ []) := by
      cases qs with
      | nil => exact ⟨by decide, fun z => absurd z (by decide)⟩
      | cons n r => exact ⟨by simp, fun _ => List.cons_ne_nil _ _⟩
    have hb1 : -2 ^ 62 ≤ (1024 : Int) * (if (!qs.isEmpty) = true then 1 else 0) ∧ (1024 : Int) * (if (!qs.isEmpty) = true then 1 else 0) < 2 ^ 62 := by
      cases qs.isEmpty <;> simp
    refine ⟨_, _, .lst (SqL.of eFe) (dp_ints qs), .lst (SqL.of upd_same) .nil, shaped_ints qs, shaped_ints [], .inr ⟨_, rfl, _, _, rfl, rfl, ?_, _, rfl, ?_⟩⟩
    · exact mulw (by decide) (by split <;> decide)
    rw [eei]
    generalize upd H5 e (.lst []) = H6 at eFe eBe n6 t6
    refine ⟨hb1.1, hb1.2, for_range (n := ((1024 : Int) * (if (!qs.isEmpty) = true then 1 else 0)).toNat) (fun i σ Hx => ∃ y3 y4 y5 y6 : Option V, σ = [some (.str (SX.S mk)), some (.ref b), some (.ref F), y3, y4, y5, y6] ∧ Same H6 Hx) ⟨_, _, _, _, rfl, Same.refl _⟩ (fun i σ Hx hi hP => ?_) (fun σ Hx hP => ?_)⟩
    · obtain ⟨y3, y4, y5, y6, rfl, sx⟩ := hP
      have i1024 : i < 1024 := Nat.lt_of_lt_of_le hi hm.1
      have hne := hm.2 (Nat.lt_of_le_of_lt (Nat.zero_le _) hi)
      have e0 : (0 : Int) + (i : Nat) = (i : Int) := by omega
      rw [e0]
      refine ⟨_, rfl, by decide, by decide, fun D nD => lc_range (n := 10) (fun j H' => Same Hx H' ∧ H' D = some (.lst ((((List.range j).filter fun p => i.testBit p).map fun p : Nat => (p : Int)).map V.int))) ⟨same_upd nD, upd_same⟩ (fun j H' hj hP => ?_) (fun H7 hP => ?_)⟩
      · obtain ⟨sm, eD⟩ := hP
        have e0 : (0 : Int) + (j : Nat) = (j : Int) := by omega
        rw [e0]
        have et : (List.range (j + 1)).filter (fun p => i.testBit p) = (List.range j).filter (fun p => i.testBit p) ++ (if i.testBit j = true then [j] else []) := by
          rw [List.range_succ, List.filter_append]
          by_cases c : i.testBit j = true
          · rw [if_pos c, List.filter_cons_of_pos c]; rfl
          · rw [if_neg c, List.filter_cons_of_neg c]; rfl
        have lj : ((List.range j).filter fun p => i.testBit p).length ≤ j := Nat.le_trans (List.length_filter_le ..) (by rw [List.length_range]; exact Nat.le_refl _)
        have tr : TruV K (.int ((i >>> j &&& 1 : Nat) : Int)) H' (i.testBit j) := by
          show i.testBit j = (((i >>> j &&& 1 : Nat) : Int) != 0)
          rw [bit_one]
          cases i.testBit j <;> rfl
        refine ⟨rfl, _, rfl, _, rfl, i, j, rfl, rfl, _, 1, rfl, rfl, _, tr, ite2 (fun c2 => ?_) (fun c2 => ?_)⟩
        · refine ⟨_, rfl, _, eD, small1000 (by rw [List.length_map, List.length_map]; omega), fun b o e => ?_, ?_⟩
          · rw [upd_ne (ne_of_none e nD)]
            exact sm b o e
          · rw [upd_same, et, if_pos c2, List.map_append, List.map_append]
            rfl
        · refine ⟨sm, ?_⟩
          rw [et, if_neg c2, List.append_nil]
          exact eD
      obtain ⟨s7, eD⟩ := hP
      have eD : H7 D = some (.lst ((placesF i).map V.int)) := eD
      have eF7 := s7 _ _ (sx _ _ eFe)
      have eB7 := s7 _ _ (sx _ _ eBe)
      refine ⟨_, rfl, D, _, rfl, .inl (SqL.of eD), _, rfl, F, _, rfl, .inl (SqL.of eF7), _, _, rfl, rfl, rfl, _, rfl, ite2 (fun c1 => ?_) (fun c1 => ?_)⟩
      · have c1 := V.int.inj (of_decide_eq_true c1)
        rw [List.length_map, List.length_map] at c1
        have pos2 : ∀ p ∈ placesF i, 0 ≤ p := fun p hp => ((placesF_inc i).2 p hp).1
        have l10 : (placesF i).length ≤ 10 := inc_len (n := 10) (placesF_inc i)
        refine ⟨_, rfl, b, rfl, ⟨_, SqL.of eB7⟩, fun G3 nG3 => lc_bs (bs := os.map fun o => tellsB (placesF i) mk o) nG3 eB7 (by rw [List.length_map, List.length_map]) (by rw [List.length_map]; omega) (fun j x bb H8 Kt Kn hx2 hb2 s8 k => ?_) (fun H8 s8 eG3 => ?_)⟩
        · rw [List.getElem?_map] at hx2 hb2
          cases ho : os[j]? with
          | none => rw [ho] at hx2; cases hx2
          | some o =>
            rw [ho] at hx2 hb2
            cases hx2
            cases hb2
            have hom := hos o (List.mem_of_getElem? ho)
            exact ⟨rfl, _, rfl, _, rfl, _, rfl, D, placesF i, mk, o, rfl, s8 _ _ eD, pos2, by omega, by omega, by omega, fun H9 s9 => k _ s9⟩
        · refine ⟨G3, _, rfl, SqL.of eG3, _, rfl, ite2 (fun c2 => ?_) (fun c2 => ⟨_, _, _, _, rfl, (sx.trans s7).trans s8⟩)⟩
          have hh := (tells_hits pos2 fun o ho => (hos o ho).1).mp c2
          have pl : 0 < qs.length := List.length_pos_iff.mpr hne
          rcases hb.least _ (placesF_inc i) hh with z | ⟨z, _⟩ <;> omega
      · exact ⟨_, _, _, _, rfl, sx.trans s7⟩
    · obtain ⟨y3, y4, y5, y6, rfl, sx⟩ := hP
      exact ⟨_, rfl, q F Hx qs nF0 (n02.trans (n6.trans (NoTab.same sx))) (t6.same sx) (sx _ _ eFe) hb⟩
end

/-! ### the law of k15 -/
theorem StAt.noTab {H H' : Hp} {d c : Addr} {t : Int} (S : StAt H d c t) (n : GX.NoTab H H') : StAt H' d c t := by
  obtain ⟨cs, ec, r⟩ := S.cells
  exact ⟨n.keep _ _ S.dict (fun _ z => nomatch z), ⟨cs, n.lst ec, r⟩, S.pos⟩
theorem tq_kp {Ms Xs : List Addr} {H H' : Hp} {d c : Addr} {t : Int} (h : GX.TQ Ms Xs H) (S : StAt H d c t) (k : Kp d c H H') : GX.TQ Ms Xs H' := by
  obtain ⟨cs, ec, r⟩ := S.cells
  exact h.keep (fun b ps hb => k _ _ (ne_of hb S.dict (fun z => nomatch z)) (ne_of hb ec (fun z => nomatch z)) hb)
    (fun b c' P hb => k _ _ (ne_of hb S.dict (fun z => by unfold GX.CodeG at z; cases z)) (ne_of hb ec (fun z => by unfold GX.CodeG at z; cases z)) hb)
theorem SqH.kp {H H' : Hp} {a d c : Addr} {xs : List V} (h : SqH H a xs) (h1 : a ≠ d) (h2 : a ≠ c) (k : Kp d c H H') : SqH H' a xs := h.elim (fun e => .inl (k _ _ h1 h2 e)) (fun e => .inr (k _ _ h1 h2 e))
theorem SqH.same {H H' : Hp} {a : Addr} {xs : List V} (h : SqH H a xs) (s : Same H H') : SqH H' a xs := h.elim (fun e => .inl (s _ _ e)) (fun e => .inr (s _ _ e))
def spLaw (K : PySem.W.Frag) (Ms Xs : List Addr) (Pm Pa : Addr) : Sp := fun vs H Q _ => ∃ (a : Addr) (ns : List Int), vs = [.ref a] ∧ SqL K H a (ns.map V.int) ∧ ns.length ≤ 63 ∧ GX.TQ Ms Xs H ∧ Pm ∈ Ms ∧ Pa ∈ Ms ∧ ∀ H', Q (.bl true) H'
abbrev sLaw : Stmt := topS 15
theorem scLaw : FnScope ["_law_script", "_law_state", "_law_mark_here", "_law_others_here", "_law_found", "_law_at", "_law_less", "_law_one"] ["_law_script"] (defScope sLaw) := ⟨rfl, rfl, rfl, by decide +kernel, rfl, by decide +kernel, by decide +kernel⟩
theorem cut_back (xs : List V) (m : Nat) : cutV xs (some (m : Int)) none = xs.drop m := by
  unfold cutV
  rw [HT.sIx_none, HT.sIx_nat]
  by_cases h : m ≤ xs.length
  · rw [Nat.min_eq_left h, List.take_of_length_le (by rw [List.length_drop]; omega)]
  · rw [Nat.min_eq_right (by omega), List.drop_eq_nil_of_le (Nat.le_refl _), List.drop_eq_nil_of_le (by omega), List.take_nil]
section
variable {K : PySem.W.Frag} {mg : Str → Option Value} {P : Program} {w : World} {base : Heap} {Ms Xs : List Addr} {Pme Ppa : Addr}
theorem ok_Law {f : Addr} {fd : FuncData} (F : Fun K "law" "law" sLaw f fd) (C__law_begin : Cal P w K mg base 1 "_law_begin" ["_law_script"] (spBegin K)) (C__law_mark : Cal P w K mg base 2 "_law_mark" ["_law_state", "_law_long", "_law_few"] spMark) (C__law_take : Cal P w K mg base 1 "_law_take" ["_law_state", "_law_many"] spTake) (C__law_others : Cal P w K mg base 2 "_law_others" ["_law_state", "_law_mark_here"] spOthers) (C__law_right : Cal P w K mg base 10 "_law_right" ["_law_mark_here", "_law_others_here"] (spRight K Ms Xs Pme Ppa)) (C_places_apart : Cal P w K mg base 9 "places_apart" ["marks", "mark"] (spApart K Ms Xs Pme Ppa)) (C__law_exchanged : Cal P w K mg base 1 "_law_exchanged" ["_law_mark_here"] spExch) (m_len : mg "len" = none) : FnOk P w K mg base CX0 11 f fd ["_law_script"] (spLaw K Ms Xs Pme Ppa) := by
  refine F.ok scLaw (fun vs H Q E h => ?_) (fun cdv A outer s H vs Q E hr h => ?_)
  · obtain ⟨a, ns, rfl, _⟩ := h
    rfl
  · obtain ⟨a, ns, rfl, hA, hl, hT, hPm, hPa, q⟩ := h
    refine ⟨_, pss_cons (ps_set (i := 1) scLaw.nd rfl (.inl rfl) (pe_own C__law_begin (hr.mono (show 1 ≤ 10 by decide)) (by rfl) (pa_cons (pv 0) pa_nil)))
      (pss_cons (ps_set (i := 2) scLaw.nd rfl (.inl rfl) (pe_own C__law_mark (hr.mono (show 2 ≤ 10 by decide)) (by rfl) (pa_cons (pv 1) (pa_cons (pe_ix ix_list (pe_lst (pa_cons pe_int (pa_cons (pe_op op_add pe_int (pe_own C__law_take (hr.mono (show 1 ≤ 10 by decide)) (by rfl) (pa_cons (pv 1) (pa_cons pe_int pa_nil)))) pa_nil))) (pe_own C__law_take (hr.mono (show 1 ≤ 10 by decide)) (by rfl) (pa_cons (pv 1) (pa_cons pe_int pa_nil))) (fun _ _ => rfl)) (pa_cons (pe_ix ix_list (pe_lst (pa_cons pe_int (pa_cons pe_int (pa_cons pe_int pa_nil)))) (pe_own C__law_take (hr.mono (show 1 ≤ 10 by decide)) (by rfl) (pa_cons (pv 1) (pa_cons pe_int pa_nil))) (fun _ _ => rfl)) pa_nil)))))
      (pss_cons (ps_set (i := 3) scLaw.nd rfl (.inl rfl) (pe_own C__law_others (hr.mono (show 2 ≤ 10 by decide)) (by rfl) (pa_cons (pv 1) (pa_cons (pv 2) pa_nil))))
      (pss_cons (ps_set (i := 4) scLaw.nd rfl (.inl rfl) (pe_own C__law_right hr (by rfl) (pa_cons (pv 2) (pa_cons (pv 3) pa_nil))))
      (pss_cons (ps_if (pt_cmpR op_isN (pv 4) pe_non (nomark _)) (pss_one (ps_ret pe_bl))
        pss_nil)
      (pss_cons (ps_set (i := 5) scLaw.nd rfl (.inl rfl) (pe_own C__law_take (hr.mono (show 1 ≤ 10 by decide)) (by rfl) (pa_cons (pv 1) (pa_cons (pe_op op_add (pe_callB call_len_seq (by rfl) m_len PySem.boot_len (pa_cons (pv 3) pa_nil)) pe_int) pa_nil))))
      (pss_cons (ps_set (i := 6) scLaw.nd rfl (.inl rfl) (pe_own C__law_right hr (by rfl) (pa_cons (pv 2) (pa_cons (pe_op op_cat (pe_slice sl_list (pv 3) po_none (po_some (pv 5))) (pe_slice sl_list (pv 3) (po_some (pe_op op_add (pv 5) pe_int)) po_none)) pa_nil))))
      (pss_cons (ps_if (PW.pt (pw_or (pt_cmpR op_isN (pv 6) pe_non (nomark _)) (pw_or1 (pt_cmpR op_gt (pe_callB call_len_seq (by rfl) m_len PySem.boot_len (pa_cons (pv 6) pa_nil)) (pe_callB call_len_seq (by rfl) m_len PySem.boot_len (pa_cons (pv 4) pa_nil)) (nomark _))))) (pss_one (ps_ret pe_bl))
        pss_nil)
      (pss_one (ps_ret (pe_cmpR (op_eqD hr.units) (pe_own C_places_apart (hr.mono (show 9 ≤ 10 by decide)) (by rfl) (pa_cons (pe_lc (own := [("_law_one", 7)]) (g := (gName 7)) (tt := tYes) (te := (tCall spExch [] E0 (tCons (tVar 7) tNil))) rfl scLaw.nd (pi_list (pe_op op_cat (pv 3) (pe_lst (pa_cons (pv 2) pa_nil)))) (blkOk_by (own := [("_law_one", 7)]) (N := ["_law_script", "_law_state", "_law_mark_here", "_law_others_here", "_law_found", "_law_at", "_law_less", "_law_one"]) (sc := defScope sLaw) (by decide +kernel)) (fun _ _ _ _ _ => (pg_name (i := 7) scLaw.nd rfl (.inl rfl))) (fun _ _ _ _ _ => pts_nil) (fun _ _ _ _ _ => (pe_own C__law_exchanged (hr.mono (show 1 ≤ 10 by decide)) (by rfl) (pa_cons (pv 7) pa_nil)))) (pa_cons (pe_own C__law_exchanged (hr.mono (show 1 ≤ 10 by decide)) (by rfl) (pa_cons (pv 2) pa_nil)) pa_nil))) (pv 4) (nomark _))))))))))), ?_⟩
    refine ⟨.ref a, rfl, a, ns, rfl, hA, hl, fun d c H1 s1 nd nc hS1 => ?_⟩
    have hT1 := hT.same s1
    refine ⟨_, rfl, _, rfl, d, c, 0, 7, rfl, hS1, by decide, by decide, by decide, fun r1 H2 r10 r11 hS2 k2 => ⟨_, _, rfl, rfl, ?_⟩⟩
    refine ⟨(by show 2 ≤ sizeLine; decide), fun L nL => ?_⟩
    have sL := same_upd (o := .lst [.int 10, .int (4 + r1)]) nL
    have offL := hS2.off nL
    refine ⟨_, rfl, d, c, 0 + 1, 2, rfl, hS2.same sL, by decide, by decide, by decide, fun r2 H3 r20 r21 hS3 k3 => ?_⟩
    obtain ⟨v, ev, hv⟩ := pick_at (xs := [.int 10, .int (4 + r1)]) (n := 2) rfl r20 r21
    have hv' : ∃ n : Int, v = .int n ∧ 4 ≤ n ∧ n ≤ 10 := by
      simp only [List.mem_cons, List.not_mem_nil, or_false] at hv
      rcases hv with rfl | rfl
      · exact ⟨_, rfl, by decide, by decide⟩
      · exact ⟨_, rfl, by omega, by omega⟩
    obtain ⟨n, rfl, n0, n1⟩ := hv'
    have hT3 := tq_kp ((tq_kp hT1 hS1 k2).same sL) (hS2.same sL) k3
    refine ⟨L, _, r2, _, rfl, rfl, SqL.of (k3 _ _ offL.1 offL.2 upd_same), ev, ?_⟩
    refine ⟨(by show 3 ≤ sizeLine; decide), fun L2 nL2 => ?_⟩
    have sL2 := same_upd (o := .lst [.int 2, .int 3, .int 36]) nL2
    have offL2 := hS3.off nL2
    refine ⟨_, rfl, d, c, 0 + 1 + 1, 3, rfl, hS3.same sL2, by decide, by decide, by decide, fun r3 H4 r30 r31 hS4 k4 => ?_⟩
    obtain ⟨v, ev, hv⟩ := pick_at (xs := [.int 2, .int 3, .int 36]) (n := 3) rfl r30 r31
    have hv' : ∃ n : Int, v = .int n ∧ 2 ≤ n ∧ n ≤ 36 := by
      simp only [List.mem_cons, List.not_mem_nil, or_false] at hv
      rcases hv with rfl | rfl | rfl <;> exact ⟨_, rfl, by decide, by decide⟩
    obtain ⟨fw, rfl, f0, f1⟩ := hv'
    have hT4 := tq_kp (hT3.same sL2) (hS3.same sL2) k4
    refine ⟨L2, _, r3, _, rfl, rfl, SqL.of (k4 _ _ offL2.1 offL2.2 upd_same), ev, d, c, 0 + 1 + 1 + 1, n, fw, rfl, hS4, by decide, by omega, by omega, by omega, by omega, fun mk H5 t5 hml hmo v0 v1 hS5 k5 => ?_⟩
    have hT5 := tq_kp hT4 hS4 k5
    refine ⟨_, rfl, _, rfl, d, c, t5, mk, rfl, hS5, by omega, by omega, by omega, hmo, fun b H6 os t6 nb eb hol hos w0 w1 hS6 k6 => ?_⟩
    have hT6 := tq_kp hT5 hS5 k6
    have offb := hS5.off nb
    refine ⟨_, rfl, _, rfl, b, mk, os, rfl, eb, by omega, by omega, fun o ho => ⟨(hos o ho).1, (hos o ho).2.1⟩, hT6, hPm, hPa, fun F H7 ps nF n7 t7 eF hb => ?_⟩
    have hS7 := hS6.noTab n7
    have eb7 := n7.lst eb
    refine ⟨_, rfl, rfl, _, rfl, ite2 (fun z => by cases z) (fun _ => ?_)⟩
    have lto : (txs os).length = os.length := List.length_map ..
    -- a mark less
    refine ⟨_, rfl, _, rfl, b, _, rfl, .inl (SqL.of eb7), _, _, rfl, rfl, d, c, t6, _, rfl, hS7, by omega, by rw [lto]; omega, by rw [lto]; omega, fun r5 H8 r50 r51 hS8 k8 => ?_⟩
    have offb8 : b ≠ d ∧ b ≠ c := offb
    have offF : F ≠ d ∧ F ≠ c := hS6.off nF
    have eb8 := k8 _ _ offb8.1 offb8.2 eb7
    have eF8 : IntsA H8 F ps := k8 _ _ offF.1 offF.2 eF
    have hT8 := tq_kp t7 hS7 k8
    obtain ⟨k, rfl⟩ := Int.eq_ofNat_of_zero_le r50
    have e1k : ((k : Int) + 1) = ((k + 1 : Nat) : Int) := by omega
    refine ⟨_, rfl, _, rfl, _, rfl, _, rfl, b, _, rfl, SqL.of eb8, fun p1 np1 => ?_⟩
    have sp1 := same_upd (o := .lst (cutV (txs os) none (some (k : Int)))) np1
    have ep1 : upd H8 p1 (.lst (cutV (txs os) none (some (k : Int)))) p1 = some (.lst (txs (os.take k))) := by
      rw [upd_same, cut_front, txs, ← List.map_take]
    generalize upd H8 p1 (.lst (cutV (txs os) none (some (k : Int)))) = H9 at sp1 ep1
    have eb9 := sp1 _ _ eb8
    refine ⟨_, rfl, _, rfl, _, _, rfl, rfl, _, rfl, b, _, rfl, SqL.of eb9, fun p2 np2 => ?_⟩
    have sp2 := same_upd (o := .lst (cutV (txs os) (some ((k : Int) + 1)) none)) np2
    have ep2 : upd H9 p2 (.lst (cutV (txs os) (some ((k : Int) + 1)) none)) p2 = some (.lst (txs (os.drop (k + 1)))) := by
      rw [upd_same, e1k, cut_back, txs, ← List.map_drop]
    have sp12 := sp1.trans sp2
    have ep1' := sp2 _ _ ep1
    generalize upd H9 p2 (.lst (cutV (txs os) (some ((k : Int) + 1)) none)) = H10 at sp2 ep2 sp12 ep1'
    refine ⟨p1, p2, _, _, rfl, rfl, ep1', ep2, Nat.le_trans (show _ ≤ 1000 by rw [List.length_map, List.length_map, List.length_take, List.length_drop]; omega) (by decide), fun p3 np3 => ?_⟩
    have sp3 := same_upd (o := .lst (txs (os.take k) ++ txs (os.drop (k + 1)))) np3
    have ep3 : upd H10 p3 (.lst (txs (os.take k) ++ txs (os.drop (k + 1)))) p3 = some (.lst (txs (os.take k ++ os.drop (k + 1)))) := by
      rw [upd_same]
      simp [txs, List.map_append]
    have sp13 := sp12.trans sp3
    generalize upd H10 p3 (.lst (txs (os.take k) ++ txs (os.drop (k + 1)))) = H11 at sp3 ep3 sp13
    have sub : ∀ o ∈ os.take k ++ os.drop (k + 1), o ∈ os := fun o ho => (List.mem_append.mp ho).elim List.mem_of_mem_take List.mem_of_mem_drop
    refine ⟨p3, mk, _, rfl, ep3, by rw [List.length_append, List.length_take, List.length_drop]; omega, by omega, fun o ho => ⟨(hos o (sub o ho)).1, (hos o (sub o ho)).2.1⟩, hT8.same sp13, hPm, hPa, fun F2 H12 ps2 nF2 n12 t12 eF2 hb2 => ?_⟩
    have eF12 : IntsA H12 F ps := n12.lst (sp13 _ _ eF8)
    have eb12 := n12.lst (sp13 _ _ eb8)
    have le : ps2.length ≤ ps.length := by
      rcases hb2.least ps hb.inc (fun o ho ne => hb.hits o (by
        rcases List.mem_cons.mp ho with z | z
        · rw [z]; exact List.mem_cons_self ..
        · exact List.mem_cons_of_mem _ (sub o z)) ne) with z | ⟨z, _⟩ <;> omega
    refine ⟨_, rfl, rfl, _, rfl, ite2 (fun z => by cases z) (fun _ => ?_)⟩
    refine ⟨_, rfl, F2, _, rfl, .inl (SqL.of eF2), _, rfl, F, _, rfl, .inl (SqL.of eF12), _, _, rfl, rfl, _, rfl, ite2 (fun z => ?_) (fun _ => ?_)⟩
    · have z := of_decide_eq_true z
      rw [List.length_map, List.length_map] at z
      omega
    -- the signs exchanged
    refine ⟨_, rfl, _, rfl, (by show 1 ≤ sizeLine; decide), fun l nl => ?_⟩
    have sl := same_upd (o := .lst [.str (SX.S mk)]) nl
    have el : upd H12 l (.lst [.str (SX.S mk)]) l = some (.lst [.str (SX.S mk)]) := upd_same
    generalize upd H12 l (.lst [.str (SX.S mk)]) = H13 at sl el
    refine ⟨b, l, _, _, rfl, rfl, sl _ _ eb12, el, Nat.le_trans (show _ ≤ 1000 by rw [lto]; show _ + 1 ≤ _; omega) (by decide), fun m nm => ?_⟩
    have sm := same_upd (o := .lst (txs os ++ [.str (SX.S mk)])) nm
    have em : upd H13 m (.lst (txs os ++ [.str (SX.S mk)])) m = some (.lst (txs (os ++ [mk]))) := by
      rw [upd_same]
      simp [txs, List.map_append]
    have slm := sl.trans sm
    generalize upd H13 m (.lst (txs os ++ [.str (SX.S mk)])) = H14 at sm em slm
    have hall : ∀ o ∈ os ++ [mk], o.length ≤ 10 ∧ okS o := fun o ho => by
      rcases List.mem_append.mp ho with z | z
      · exact (hos o z).2
      · rw [List.mem_singleton.mp z]; exact ⟨by omega, hmo⟩
    generalize hms : os ++ [mk] = ms at em hall
    have lms : ms.length ≤ 24 := by rw [← hms, List.length_append]; show os.length + 1 ≤ 24; omega
    have ltm : (txs ms).length = ms.length := List.length_map ..
    refine ⟨m, rfl, ⟨_, SqL.of em⟩, fun D nD => lc_list (xs := txs ms) (fun j H' => Same H14 H' ∧ H' D = some (.lst (txs ((ms.take j).map fun o => o.map exF)))) ⟨same_upd nD, upd_same⟩ (fun j H' _ hP => SqL.of (hP.1 _ _ em)) (fun j x H' hx hP => ?_) (fun H15 hP => ?_)⟩
    · obtain ⟨s, eD⟩ := hP
      have hj : j < ms.length := by rw [← ltm]; exact (List.getElem?_eq_some_iff.mp hx).1
      have eo : ms[j]? = some ms[j] := List.getElem?_eq_getElem hj
      have ho := hall _ (List.getElem_mem hj)
      rw [List.getElem?_map, eo] at hx
      generalize ms[j] = o at eo ho hx
      cases hx
      refine ⟨rfl, _, rfl, o, rfl, by omega, ho.2, fun H' s2 => ⟨_, s2 _ _ eD, small1000 (by rw [List.length_map, List.length_map, List.length_take]; omega), fun b u e => ?_, ?_⟩⟩
      · rw [upd_ne (ne_of_none e nD)]
        exact s2 _ _ (s b u e)
      · rw [upd_same, List.take_add_one, eo, List.map_append]
        simp [txs]
    · obtain ⟨s15, eD⟩ := hP
      rw [ltm, List.take_length] at eD
      refine ⟨_, rfl, mk, rfl, by omega, hmo, fun H16 s16 => ?_⟩
      have eD16 := s16 _ _ eD
      have sall := (slm.trans s15).trans s16
      refine ⟨D, ms.map (fun o => o.map exF), mk.map exF, rfl, .inl eD16, by rw [List.length_map]; omega, List.mem_map_of_mem (by rw [← hms]; simp), fun o ho => ?_, t12.same sall, hPm, hPa, fun F3 H17 ps3 _ n17 _ eF3 hb3 => ?_⟩
      · obtain ⟨o', ho', rfl⟩ := List.mem_map.mp ho
        rw [List.length_map]
        exact (hall o' ho').1
      have e3 : ps3 = ps := hb3.unique ((hb.mem (fun o => by rw [← hms]; simp [or_comm])).exch (fun o ho => (hall o ho).2) hmo)
      subst e3
      have eF17 : H17 F = some (.lst (ps3.map V.int)) := n17.lst (sall _ _ eF12)
      refine ⟨_, rfl, _, _, .lst (SqL.of eF3) (dp_ints ps3), .lst (SqL.of eF17) (dp_ints ps3), shaped_ints ps3, shaped_ints ps3, ?_⟩
      rw [SeqAt.eqv_refl _ (SeqAt.canLay_of_shaped (shaped_ints ps3))]
      exact q _
end

/-! ### the end: what the top has left, the tables of code objects among it -/
/-- each def of the text has a code object with an empty table -/
def Tabs (q : Program) (mg : Str → Option Value) (h : Heap) : Prop := ∀ dr ∈ recsOf q, ∃ (f : Addr) (o : Obj) (fd : FuncData) (c P : Addr), mg dr.name = some (.ref f) ∧ h.get? f = some o ∧ o.data = .func fd ∧ fd.code = .ref c ∧ PySem.W.CodeHd h c P ∧ h.get? P = some (PySem.W.tabObj #[])
theorem tab_in {q : Program} {mg : Str → Option Value} {h : Heap} {K : PySem.W.Frag} {y : Str} {f c P : Addr} {oc e : Value} {od dd : Option Addr} {fd : FuncData} {osl sl : Array (Option Value)} {vs : Array Value} (TT : Tabs q mg h) (X : K.In h) (rec : ((recsOf q).any fun r => r.name == y) = true)
    (g : mg y = some (.ref f)) (lf : K.lookup f = some ⟨oc, od, .func fd, osl⟩) (hc : fd.code = .ref c) (lc : K.lookup c = some ⟨e, dd, .fields vs, sl⟩) (v : vs[11]? = some (.ref P)) : PySem.W.CodeHd h c P ∧ h.get? P = some (PySem.W.tabObj #[]) := by
  obtain ⟨dr, mem, nm⟩ := List.any_eq_true.mp rec
  obtain ⟨f', o', fd', c', P', t1, t2, t3, t4, t5, t6⟩ := TT dr mem
  have ef : f' = f := by
    rw [beq_iff_eq.mp nm, g] at t1
    exact (Value.ref.inj (Option.some.inj t1)).symm
  rw [ef, X _ _ lf] at t2
  rw [← Option.some.inj t2] at t3
  have efd : fd = fd' := Data.func.inj t3
  rw [← efd, hc] at t4
  have ec : c = c' := Value.ref.inj t4
  rw [← ec] at t5
  have t5' := t5
  obtain ⟨oc', us, _, _, _, _, _, _, _, u1, _, u3, u4, _⟩ := t5'
  rw [X _ _ lc] at u1
  rw [← Option.some.inj u1] at u3
  have eu : vs = us := Data.fields.inj u3
  rw [← eu, v] at u4
  have eP : P = P' := Value.ref.inj (Option.some.inj u4)
  rw [eP]
  exact ⟨t5, t6⟩
theorem law_end {l : PySem.W.OpenLaw} {k : Nat} {q : Program} {loose : List Str} {XP : (Str → Option Value) → Heap → Prop} {YP : World → Heap → Prop} {d : DefRec} {K : Params → PySem.W.Frag} (most : l.most = some 63) (plain : d.params.defaults = []) (room : Room k callerA)
    (part : ∀ w h, YP w h → (K w.params).In h) (made : ∀ (w : World) (mg : Str → Option Value) (f : Addr) (h : Heap), (K w.params).In h → h.Ns mainGlobals mg → mg d.name = some (.ref f) → Tabs q mg h → LamX.LawAtS l w (K w.params) CX0 k 63 "_law_script" mg f h) : PySem.W.WalkO q loose XP YP l.row.toRowW d [] (fun f vs => PySem.call f vs) := by
  refine Att.attach_callB most plain ?_
  intro w _ s₁ mg _ f _ _ _ _ a vs ns ground said _ _ _ name script nums len size still
  have X := part w _ said
  have tabs : Tabs q mg s₁.heap := fun dr mem => by
    obtain ⟨f', o', fd', c', P', t1, t2, t3, t4, t5, t6⟩ := ground.T.tab dr mem
    exact ⟨f', o', fd', c', P', t1, t2, t3, t4, PySem.W.CodeHd.of t5 t6, t6.2⟩
  obtain ⟨fd, cs, sp, e1, e2, e3, e4, e5, e6⟩ := made w mg f _ X ground.T.g name tabs
  exact LamX.law_callTs X ground.T.g ground.T.b ground.T.builtins ground.T.nolimit still e1 e2 e3 ground.T.bmain script nums (Nat.le_trans len (by decide)) room e6 e4 (fun H z1 z2 => e5 H a ns len size z1 z2) fun _ _ _ z => z

theorem all_mk {l : PySem.W.OpenLaw} {q : Program} {w : World} {K : PySem.W.Frag} {h : Heap} {mg : Str → Option Value} {fa f0 f1 f2 f3 f4 f5 f6 f7 f8 f9 f10 f11 f12 f13 : Addr} {c2 P2 c4 P4 : Addr} (X : K.In h) (G : h.Ns mainGlobals mg) (hfa : mg "law" = some (.ref fa)) (TT : Tabs q mg h)
    {od0 an0 od1 an1 od2 an2 od3 an3 od4 an4 od5 an5 od6 an6 od7 an7 od8 an8 od9 an9 od10 an10 od11 an11 od12 an12 od13 an13 : Option Addr} {sl0 sl1 sl2 sl3 sl4 sl5 sl6 sl7 sl8 sl9 sl10 sl11 sl12 sl13 : Array (Option Value)} {oc0 kV0 dc0 pm0 ct0 cd0 oc1 kV1 dc1 pm1 ct1 cd1 oc2 kV2 dc2 pm2 ct2 oc3 kV3 dc3 pm3 ct3 cd3 oc4 kV4 dc4 pm4 ct4 oc5 kV5 dc5 pm5 ct5 cd5 oc6 kV6 dc6 pm6 ct6 cd6 oc7 kV7 dc7 pm7 ct7 cd7 oc8 kV8 dc8 pm8 ct8 cd8 oc9 kV9 dc9 pm9 ct9 cd9 oc10 kV10 dc10 pm10 ct10 cd10 oc11 kV11 dc11 pm11 ct11 cd11 oc12 kV12 dc12 pm12 ct12 cd12 oc13 kV13 dc13 pm13 ct13 cd13 : Value}
    {e2 : Value} {dd2 : Option Addr} {vs2 : Array Value} {sc2 : Array (Option Value)} {e4 : Value} {dd4 : Option Addr} {vs4 : Array Value} {sc4 : Array (Option Value)}
    (a0 : PySem.W.nsIn K mainGlobals "sign_at" = some (some (.ref f0))) (l0 : K.lookup f0 = some ⟨oc0, od0, .func (PySem.W.fnOf "sign_at" "sign_at" (defArgs sSignAt) (defBody sSignAt) (defScope sSignAt) .none kV0 dc0 pm0 an0 cd0 ct0), sl0⟩) (c0' : PySem.W.codeIn K cd0 "sign_at" = true) (k0 : PySem.W.keepIn K (.ref f0) = true)
    (a1 : PySem.W.nsIn K mainGlobals "unlike_places" = some (some (.ref f1))) (l1 : K.lookup f1 = some ⟨oc1, od1, .func (PySem.W.fnOf "unlike_places" "unlike_places" (defArgs sUnlike) (defBody sUnlike) (defScope sUnlike) .none kV1 dc1 pm1 an1 cd1 ct1), sl1⟩) (c1' : PySem.W.codeIn K cd1 "unlike_places" = true) (k1 : PySem.W.keepIn K (.ref f1) = true)
    (a2 : PySem.W.nsIn K mainGlobals "meets_each" = some (some (.ref f2))) (l2 : K.lookup f2 = some ⟨oc2, od2, .func (PySem.W.fnOf "meets_each" "meets_each" (defArgs sMeets) (defBody sMeets) (defScope sMeets) .none kV2 dc2 pm2 an2 (.ref c2) ct2), sl2⟩) (c2' : PySem.W.codeIn K (.ref c2) "meets_each" = true) (k2 : PySem.W.keepIn K (.ref f2) = true)
    (a3 : PySem.W.nsIn K mainGlobals "one_place_more" = some (some (.ref f3))) (l3 : K.lookup f3 = some ⟨oc3, od3, .func (PySem.W.fnOf "one_place_more" "one_place_more" (defArgs sMore) (defBody sMore) (defScope sMore) .none kV3 dc3 pm3 an3 cd3 ct3), sl3⟩) (c3' : PySem.W.codeIn K cd3 "one_place_more" = true) (k3 : PySem.W.keepIn K (.ref f3) = true)
    (a4 : PySem.W.nsIn K mainGlobals "places_apart" = some (some (.ref f4))) (l4 : K.lookup f4 = some ⟨oc4, od4, .func (PySem.W.fnOf "places_apart" "places_apart" (defArgs sApart) (defBody sApart) (defScope sApart) .none kV4 dc4 pm4 an4 (.ref c4) ct4), sl4⟩) (c4' : PySem.W.codeIn K (.ref c4) "places_apart" = true) (k4 : PySem.W.keepIn K (.ref f4) = true)
    (a5 : PySem.W.nsIn K mainGlobals "_law_begin" = some (some (.ref f5))) (l5 : K.lookup f5 = some ⟨oc5, od5, .func (PySem.W.fnOf "_law_begin" "_law_begin" (defArgs sBegin) (defBody sBegin) (defScope sBegin) .none kV5 dc5 pm5 an5 cd5 ct5), sl5⟩) (c5' : PySem.W.codeIn K cd5 "_law_begin" = true) (k5 : PySem.W.keepIn K (.ref f5) = true)
    (a6 : PySem.W.nsIn K mainGlobals "_law_take" = some (some (.ref f6))) (l6 : K.lookup f6 = some ⟨oc6, od6, .func (PySem.W.fnOf "_law_take" "_law_take" (defArgs sTake) (defBody sTake) (defScope sTake) .none kV6 dc6 pm6 an6 cd6 ct6), sl6⟩) (c6' : PySem.W.codeIn K cd6 "_law_take" = true) (k6 : PySem.W.keepIn K (.ref f6) = true)
    (a7 : PySem.W.nsIn K mainGlobals "_law_mark" = some (some (.ref f7))) (l7 : K.lookup f7 = some ⟨oc7, od7, .func (PySem.W.fnOf "_law_mark" "_law_mark" (defArgs sMark) (defBody sMark) (defScope sMark) .none kV7 dc7 pm7 an7 cd7 ct7), sl7⟩) (c7' : PySem.W.codeIn K cd7 "_law_mark" = true) (k7 : PySem.W.keepIn K (.ref f7) = true)
    (a8 : PySem.W.nsIn K mainGlobals "_law_marks" = some (some (.ref f8))) (l8 : K.lookup f8 = some ⟨oc8, od8, .func (PySem.W.fnOf "_law_marks" "_law_marks" (defArgs sMarks) (defBody sMarks) (defScope sMarks) .none kV8 dc8 pm8 an8 cd8 ct8), sl8⟩) (c8' : PySem.W.codeIn K cd8 "_law_marks" = true) (k8 : PySem.W.keepIn K (.ref f8) = true)
    (a9 : PySem.W.nsIn K mainGlobals "_law_others" = some (some (.ref f9))) (l9 : K.lookup f9 = some ⟨oc9, od9, .func (PySem.W.fnOf "_law_others" "_law_others" (defArgs sOthers) (defBody sOthers) (defScope sOthers) .none kV9 dc9 pm9 an9 cd9 ct9), sl9⟩) (c9' : PySem.W.codeIn K cd9 "_law_others" = true) (k9 : PySem.W.keepIn K (.ref f9) = true)
    (a10 : PySem.W.nsIn K mainGlobals "_law_tells" = some (some (.ref f10))) (l10 : K.lookup f10 = some ⟨oc10, od10, .func (PySem.W.fnOf "_law_tells" "_law_tells" (defArgs sTells) (defBody sTells) (defScope sTells) .none kV10 dc10 pm10 an10 cd10 ct10), sl10⟩) (c10' : PySem.W.codeIn K cd10 "_law_tells" = true) (k10 : PySem.W.keepIn K (.ref f10) = true)
    (a11 : PySem.W.nsIn K mainGlobals "_law_right" = some (some (.ref f11))) (l11 : K.lookup f11 = some ⟨oc11, od11, .func (PySem.W.fnOf "_law_right" "_law_right" (defArgs sRight) (defBody sRight) (defScope sRight) .none kV11 dc11 pm11 an11 cd11 ct11), sl11⟩) (c11' : PySem.W.codeIn K cd11 "_law_right" = true) (k11 : PySem.W.keepIn K (.ref f11) = true)
    (a12 : PySem.W.nsIn K mainGlobals "_law_exchanged" = some (some (.ref f12))) (l12 : K.lookup f12 = some ⟨oc12, od12, .func (PySem.W.fnOf "_law_exchanged" "_law_exchanged" (defArgs sExch) (defBody sExch) (defScope sExch) .none kV12 dc12 pm12 an12 cd12 ct12), sl12⟩) (c12' : PySem.W.codeIn K cd12 "_law_exchanged" = true) (k12 : PySem.W.keepIn K (.ref f12) = true)
    (a13 : PySem.W.nsIn K mainGlobals "law" = some (some (.ref f13))) (l13 : K.lookup f13 = some ⟨oc13, od13, .func (PySem.W.fnOf "law" "law" (defArgs sLaw) (defBody sLaw) (defScope sLaw) .none kV13 dc13 pm13 an13 cd13 ct13), sl13⟩) (c13' : PySem.W.codeIn K cd13 "law" = true) (k13 : PySem.W.keepIn K (.ref f13) = true)
    (lc2 : K.lookup c2 = some ⟨e2, dd2, .fields vs2, sc2⟩) (v2 : vs2[11]? = some (.ref P2)) (nP2 : K.lookup P2 = none) (r2 : ((recsOf q).any fun e => e.name == ("meets_each" : Str)) = true)
    (lc4 : K.lookup c4 = some ⟨e4, dd4, .fields vs4, sc4⟩) (v4 : vs4[11]? = some (.ref P4)) (nP4 : K.lookup P4 = none) (r4 : ((recsOf q).any fun e => e.name == ("places_apart" : Str)) = true)
    (z_all : PySem.W.nsIn K mainGlobals "all" = some none) (z_any : PySem.W.nsIn K mainGlobals "any" = some none) (z_divmod : PySem.W.nsIn K mainGlobals "divmod" = some none) (z_int : PySem.W.nsIn K mainGlobals "int" = some none) (z_isinstance : PySem.W.nsIn K mainGlobals "isinstance" = some none) (z_len : PySem.W.nsIn K mainGlobals "len" = some none) (z_list : PySem.W.nsIn K mainGlobals "list" = some none) (z_max : PySem.W.nsIn K mainGlobals "max" = some none) (z_range : PySem.W.nsIn K mainGlobals "range" = some none) (z_set : PySem.W.nsIn K mainGlobals "set" = some none) (z_sorted : PySem.W.nsIn K mainGlobals "sorted" = some none) :
    LamX.LawAtS l w K CX0 11 63 "_law_script" mg fa h := by
  cases hfa.symm.trans (PySem.W.mg_of X G a13)
  have F0 := fun_mk (st := sSignAt) l0 c0' k0
  have b0 := F0.binds (ps := ["mark", "place"]) fun _ _ _ _ _ _ us hl => match us, hl with | [_, _], _ => rfl
  have F1 := fun_mk (st := sUnlike) l1 c1' k1
  have b1 := F1.binds (ps := ["mark", "other"]) fun _ _ _ _ _ _ us hl => match us, hl with | [_, _], _ => rfl
  have F2 := fun_mk (st := sMeets) l2 c2' k2
  have b2 := F2.binds (ps := ["places", "rows"]) fun _ _ _ _ _ _ us hl => match us, hl with | [_, _], _ => rfl
  have F3 := fun_mk (st := sMore) l3 c3' k3
  have b3 := F3.binds (ps := ["choices", "many"]) fun _ _ _ _ _ _ us hl => match us, hl with | [_, _], _ => rfl
  have F4 := fun_mk (st := sApart) l4 c4' k4
  have b4 := F4.binds (ps := ["marks", "mark"]) fun _ _ _ _ _ _ us hl => match us, hl with | [_, _], _ => rfl
  have F5 := fun_mk (st := sBegin) l5 c5' k5
  have b5 := F5.binds (ps := ["_law_script"]) fun _ _ _ _ _ _ us hl => match us, hl with | [_], _ => rfl
  have F6 := fun_mk (st := sTake) l6 c6' k6
  have b6 := F6.binds (ps := ["_law_state", "_law_many"]) fun _ _ _ _ _ _ us hl => match us, hl with | [_, _], _ => rfl
  have F7 := fun_mk (st := sMark) l7 c7' k7
  have b7 := F7.binds (ps := ["_law_state", "_law_long", "_law_few"]) fun _ _ _ _ _ _ us hl => match us, hl with | [_, _, _], _ => rfl
  have F8 := fun_mk (st := sMarks) l8 c8' k8
  have b8 := F8.binds (ps := ["_law_state", "_law_many"]) fun _ _ _ _ _ _ us hl => match us, hl with | [_, _], _ => rfl
  have F9 := fun_mk (st := sOthers) l9 c9' k9
  have b9 := F9.binds (ps := ["_law_state", "_law_mark_here"]) fun _ _ _ _ _ _ us hl => match us, hl with | [_, _], _ => rfl
  have F10 := fun_mk (st := sTells) l10 c10' k10
  have b10 := F10.binds (ps := ["_law_places", "_law_mark_here", "_law_other"]) fun _ _ _ _ _ _ us hl => match us, hl with | [_, _, _], _ => rfl
  have F11 := fun_mk (st := sRight) l11 c11' k11
  have b11 := F11.binds (ps := ["_law_mark_here", "_law_others_here"]) fun _ _ _ _ _ _ us hl => match us, hl with | [_, _], _ => rfl
  have F12 := fun_mk (st := sExch) l12 c12' k12
  have b12 := F12.binds (ps := ["_law_mark_here"]) fun _ _ _ _ _ _ us hl => match us, hl with | [_], _ => rfl
  have F13 := fun_mk (st := sLaw) l13 c13' k13
  have m_all := PySem.W.mg_none_of X G z_all
  have m_any := PySem.W.mg_none_of X G z_any
  have m_divmod := PySem.W.mg_none_of X G z_divmod
  have m_int := PySem.W.mg_none_of X G z_int
  have m_isinstance := PySem.W.mg_none_of X G z_isinstance
  have m_len := PySem.W.mg_none_of X G z_len
  have m_list := PySem.W.mg_none_of X G z_list
  have m_max := PySem.W.mg_none_of X G z_max
  have m_range := PySem.W.mg_none_of X G z_range
  have m_set := PySem.W.mg_none_of X G z_set
  have m_sorted := PySem.W.mg_none_of X G z_sorted
  have tb2 := tab_in TT X r2 (PySem.W.mg_of X G a2) l2 rfl lc2 v2
  have tb4 := tab_in TT X r4 (PySem.W.mg_of X G a4) l4 rfl lc4 v4
  refine ⟨PySem.W.fnOf "law" "law" (defArgs sLaw) (defBody sLaw) (defScope sLaw) .none kV13 dc13 pm13 an13 cd13 ct13, [(c2, P2), (c4, P4)], spLaw K [P2, P4] [P2, P4] P2 P4, List.forall_mem_cons.mpr ⟨tb2.2, List.forall_mem_cons.mpr ⟨tb4.2, fun _ z => nomatch z⟩⟩, List.forall_mem_cons.mpr ⟨nP2, List.forall_mem_cons.mpr ⟨nP4, fun _ z => nomatch z⟩⟩, List.forall_mem_cons.mpr ⟨tb2.1, List.forall_mem_cons.mpr ⟨tb4.1, fun _ z => nomatch z⟩⟩, fun s v => .of_eq rfl, fun H a ns hl _ hH hS => ?_, fun base _ _ TB => ?_⟩
  · have hT2 : GxR.TabG H P2 := ⟨#[], hH (c2, P2) (List.mem_cons_self ..), trivial⟩; have hT4 : GxR.TabG H P4 := ⟨#[], hH (c4, P4) (List.mem_cons_of_mem _ (List.mem_cons_self ..)), trivial⟩; exact ⟨a, ns, rfl, hS, hl, ⟨List.forall_mem_cons.mpr ⟨⟨_, hH (c2, P2) (by simp)⟩, List.forall_mem_cons.mpr ⟨⟨_, hH (c4, P4) (by simp)⟩, (fun _ z => nomatch z)⟩⟩, List.forall_mem_cons.mpr ⟨⟨GX.TabQ.nil (hH (c2, P2) (by simp)), by simp⟩, List.forall_mem_cons.mpr ⟨⟨GX.TabQ.nil (hH (c4, P4) (by simp)), by simp⟩, (fun _ z => nomatch z)⟩⟩⟩, by simp, by simp, fun _ => rfl⟩
  · have g := fun {x : Str} {f : Addr} (a : PySem.W.nsIn K mainGlobals x = some (some (.ref f))) => PySem.W.mg_of X G a
    have T2 : GxR.TabB base mg c2 P2 := let t := TB (c2, P2) (List.mem_cons_self ..); ⟨t.code, t.bm, t.gP⟩
    have T4 : GxR.TabB base mg c4 P4 := let t := TB (c4, P4) (List.mem_cons_of_mem _ (List.mem_cons_self ..)); ⟨t.code, t.bm, t.gP⟩
    have CT : Cal l.prog w K mg base 1 "_law_take" ["_law_state", "_law_many"] spTake := ⟨_, _, ok_take F6 m_len m_divmod, g a6, k6, b6⟩
    have CB : Cal l.prog w K mg base 1 "_law_begin" ["_law_script"] (spBegin K) := ⟨_, _, ok_begin F5 m_list, g a5, k5, b5⟩
    have SI : Cal l.prog w K mg base 1 "sign_at" ["mark", "place"] spSignAt := ⟨_, _, ok_SignAt F0 m_len, g a0, k0, b0⟩
    have UN : Cal l.prog w K mg base 2 "unlike_places" ["mark", "other"] spUnlike := ⟨_, _, ok_Unlike F1 SI m_len m_max m_range, g a1, k1, b1⟩
    have ME : Cal l.prog w K mg base 8 "meets_each" ["places", "rows"] (spMeets K [P2, P4] [P2, P4] P2) := ⟨_, _, ok_Meets l2 c2' ⟨T2.code, T2.bm, T2.gP⟩ m_all m_any, g a2, k2, b2⟩
    have MO : Cal l.prog w K mg base 1 "one_place_more" ["choices", "many"] spMore := ⟨_, _, ok_More F3 m_range, g a3, k3, b3⟩
    have AP : Cal l.prog w K mg base 9 "places_apart" ["marks", "mark"] (spApart K [P2, P4] [P2, P4] P2 P4) := ⟨_, _, ok_Apart l4 c4' ⟨T4.code, T4.bm, T4.gP⟩ UN ME MO m_max m_len, g a4, k4, b4⟩
    have MK : Cal l.prog w K mg base 2 "_law_mark" ["_law_state", "_law_long", "_law_few"] spMark := ⟨_, _, ok_Mark F7 CT m_range, g a7, k7, b7⟩
    have OT : Cal l.prog w K mg base 2 "_law_others" ["_law_state", "_law_mark_here"] spOthers := ⟨_, _, ok_Others F9 CT m_range m_list m_len, g a9, k9, b9⟩
    have TE : Cal l.prog w K mg base 1 "_law_tells" ["_law_places", "_law_mark_here", "_law_other"] spTells := ⟨_, _, ok_Tells F10 m_any, g a10, k10, b10⟩
    have RI : Cal l.prog w K mg base 10 "_law_right" ["_law_mark_here", "_law_others_here"] (spRight K [P2, P4] [P2, P4] P2 P4) := ⟨_, _, ok_Right F11 AP TE m_isinstance m_list m_sorted m_set m_range m_all m_int m_len, g a11, k11, b11⟩
    have EX : Cal l.prog w K mg base 1 "_law_exchanged" ["_law_mark_here"] spExch := ⟨_, _, ok_Exch F12, g a12, k12, b12⟩
    exact ok_Law F13 CB MK CT OT RI AP EX m_len
end TK
open PySem PySem.W PyProof.Rows
set_option maxHeartbeats 0 in
theorem PySem.Challenge.cw_tinrecall_k15_places_of_many_marks_holds : PySem.Challenge.rw_tinrecall_k15_places_of_many_marks.Holds := by
  w_on; o_law; k_head; (case hw => w_witness2)
  k_fill
  refine TK.law_end (l := PySem.Challenge.rw_tinrecall_k15_places_of_many_marks) (k := 11) rfl rfl ⟨rfl, by decide, by decide⟩ (fun w h Y => PySem.W.kIn_of Y) ?made
  case made =>
    intro w mg f h KX G hmg TT
    refine' TK.all_mk KX G hmg TT ?a0 ?l0 ?c0 ?k0 ?a1 ?l1 ?c1 ?k1 ?a2 ?l2 ?c2 ?k2 ?a3 ?l3 ?c3 ?k3 ?a4 ?l4 ?c4 ?k4 ?a5 ?l5 ?c5 ?k5 ?a6 ?l6 ?c6 ?k6 ?a7 ?l7 ?c7 ?k7 ?a8 ?l8 ?c8 ?k8 ?a9 ?l9 ?c9 ?k9 ?a10 ?l10 ?c10 ?k10 ?a11 ?l11 ?c11 ?k11 ?a12 ?l12 ?c12 ?k12 ?a13 ?l13 ?c13 ?k13 ?lc2 ?v2 ?nP2 ?r2 ?lc4 ?v4 ?nP4 ?r4 ?z_all ?z_any ?z_divmod ?z_int ?z_isinstance ?z_len ?z_list ?z_max ?z_range ?z_set ?z_sorted
    (case a0 => k_is); (case l0 => k_is); (case c0 => k_is); (case k0 => k_is)
    (case a1 => k_is); (case l1 => k_is); (case c1 => k_is); (case k1 => k_is)
    (case a2 => k_is); (case l2 => k_is); (case c2 => k_is); (case k2 => k_is)
    (case a3 => k_is); (case l3 => k_is); (case c3 => k_is); (case k3 => k_is)
    (case a4 => k_is); (case l4 => k_is); (case c4 => k_is); (case k4 => k_is)
    (case a5 => k_is); (case l5 => k_is); (case c5 => k_is); (case k5 => k_is)
    (case a6 => k_is); (case l6 => k_is); (case c6 => k_is); (case k6 => k_is)
    (case a7 => k_is); (case l7 => k_is); (case c7 => k_is); (case k7 => k_is)
    (case a8 => k_is); (case l8 => k_is); (case c8 => k_is); (case k8 => k_is)
    (case a9 => k_is); (case l9 => k_is); (case c9 => k_is); (case k9 => k_is)
    (case a10 => k_is); (case l10 => k_is); (case c10 => k_is); (case k10 => k_is)
    (case a11 => k_is); (case l11 => k_is); (case c11 => k_is); (case k11 => k_is)
    (case a12 => k_is); (case l12 => k_is); (case c12 => k_is); (case k12 => k_is)
    (case a13 => k_is); (case l13 => k_is); (case c13 => k_is); (case k13 => k_is)
    (case lc2 => k_is); (case v2 => exact rfl); (case nP2 => exact rfl); (case r2 => decide +kernel)
    (case lc4 => k_is); (case v4 => exact rfl); (case nP4 => exact rfl); (case r4 => decide +kernel)
    (case z_all => k_is); (case z_any => k_is); (case z_divmod => k_is); (case z_int => k_is); (case z_isinstance => k_is); (case z_len => k_is); (case z_list => k_is); (case z_max => k_is); (case z_range => k_is); (case z_set => k_is); (case z_sorted => k_is)

